import Derived.Test.YtebpgfodelggoaaGreatC46
import Derived.Test.YtebpgfodelggoaaGreatC49
set_option linter.all false
set_option maxRecDepth 100000
set_option maxHeartbeats 8000000
namespace Go.Proofs.YtebpgfodelggoaaGreat
open Go.RowKit _root_.Go.Proofs.Tryz Mt
def OU(b:Bool):Int:=if b=true then 14 else 0
theorem QW p:placesOf (lg p)=nowhere:=by
 unfold placesOf nowhere;apply rY
 ·simp
 ·intro i h G;simp only[uX,uQ,List.getElem_replicate];have j:i<20:=by simpa using h
  unfold gt lg nowhere;rw[lH,show 2+i=i+1+1 by omega,gI,gI,gK (by simp;omega),oJ,lG j];rfl
theorem ZA{A}{s q:List Int}(I:FV A s q) p:vN p q=vN p s:=by
 have h:=I;unfold vN;rw[h.low 1 (by omega)];congr 2;apply iH;intro G;by_cases j:G<18
 ·rw[oK j,oK j,sW,sW];have e:=h.low (4+G) (by omega);have J:=h.ls;have O:=h.lq;unfold gt at e;rw[lH,lH,lN (by omega),lN (by omega)]at e;rw[lN (by omega),lN (by omega)];simpa using e
 ·rw[gQ (by rw[uM];omega),gQ (by rw[uM];omega)]
def CS(k:Pk)(E:Env)(S:Hz × Bool)(FW:Option Addr)(w1:World)(p n:Nat)(wr:World):Prop:=
 ∃hd kn zA wo wc,zV k wr (k.zD+1-((n+1:Nat):Int)) hd zA wo wc []/\jZ k FW wo w1 wr/\Tab E hd kn/\kn.length=E.c.length*(E.t.size+1)*12/\(0<=zA/\zA<=5000)/\search E k.zD (E.t.size+1-p) p n kn zA=S/\(n:Int)<=k.zD
def zFh(k:Pk)(E:Env)(S:Hz × Bool)(FW:Option Addr)(w1:World)(p:Nat)(q':List Int)(b:Bool)(w':World):Prop:=
 q'.length=43/\∃st hd zA wo wc W,zV k w' st hd zA wo wc W/\jZ k FW wo w1 w'/\((st=k.zD+1/\S=(yD,true))\/(st<=k.zD/\0<=st/\b=true/\S=(⟨true,vN p q',st⟩,false))\/(st<=k.zD/\0<=st/\b=false/\∃n,CS k E S FW w1 (p+1) n w'))
theorem zEX{k E A}(j:Ctx k E A){S b0 w1 w w' p n}(a5:Below w.heap.size w w')(b8:p<=E.t.size)(b2:CS k E S b0 w1 p n w):
  CT 40 #[.pointer (some ⟨k.g,0,none⟩),.agg (yH (lg p))] w' λe a9=>∃q' b,e=.returned (.tuple #[.agg (yH q'),.bool b])/\zFh k E S b0 w1 p q' b a9:=by
 obtain⟨b6,kn,zA,c0,wc,b3,b4,b5,a3,a4,h,c1⟩:=b2;have c2:=j.bud;have Y:Known E.c A:=by rw[j.ec];exact j.known
 have a6:=ku _ _ p Y.pos b8;have b7:EJ k A (kL p) (lg p):=⟨by rw[<-j.ec,<-j.et];exact a6,XE Y p,RH p⟩
 have a7:=yK E Y.ok n n (kL p) kn zA (lF _) a6 a4;have c3:=xE E n (kL p) kn zA;refine(zDR j (n+1) w' b6 kn zA c0 wc [] _ _ (b3.below a5) b5 a3 a4 b7 (by simp;omega) (by omega)).mono ?_;rintro e a9 ⟨q',b,rfl,b9,a8⟩;refine⟨q',b,rfl,b9,?_⟩;rw[show n+1-1=n by omega]at a8;rw[show E.t.size+1-p=(E.t.size-p)+1 by omega,search]at h;have Z:=b4.trans (jZ.below a5);rcases a8 with ⟨a0,O,zG,W,U,W',I,J,a1⟩ | ⟨a0,a2,b1,O,W,U,I,J,a1⟩
 ·rw[lG a0]at h;exact⟨_,O,zG,W,U,W',I,Z.trans J,gG ⟨rfl,h.symm⟩⟩
 ·rw[lC (by rw[a0];exact oF)]at h;refine⟨_,O,_,W,U,[],I,Z.trans J,lZ ?_⟩;cases G:(zS E n (kL p) kn zA).ok with
  | true =>
   rw[lG G]at h;refine gG ⟨by omega,by omega,by rw[a2,G],?_⟩;rw[<-h,ZA (b1 G)]
  | false =>
   rw[lC (by rw[G];exact oF)]at h;refine lZ ⟨by omega,by omega,by rw[a2,G],(zS E n (kL p) kn zA).n,O,(zS E n (kL p) kn zA).kn,(zS E n (kL p) kn zA).zA,W,U,?_,Z.trans J,a1,by rw[a7.2.1];exact a3,a7.2.2.1,?_,by omega⟩
   ·rw[show k.zD+1-(((zS E n (kL p) kn zA).n+1:Nat):Int)=k.zD-((zS E n (kL p) kn zA).n:Int) by omega];exact I
   ·rw[show E.t.size+1-(p+1)=E.t.size-p by omega];exact h
theorem CS.below{k E S j w1 w w' p n}(G:CS k E S j w1 p n w)(h:Below w.heap.size w w'):CS k E S j w1 p n w':=by
 obtain⟨U,kn,zA,W,wc,I,J,O⟩:=G;exact⟨U,kn,zA,W,wc,I.below h,J.trans (jZ.below h),O⟩
def QX(E:Env)(g cap gl gs gh:Nat)(zD zA:Int):Array Value:=#[.slice (some ⟨g,0,none⟩) E.c.length cap,.string E.t,.int .i64 zD,.int .i64 0,.int .i64 ((E.t.size:Int)+1),.slice (some ⟨gl,0,none⟩) E.c.length E.c.length,.slice (some ⟨gs,0,none⟩) E.c.length E.c.length,.slice (some ⟨gh,0,none⟩) (E.base E.c.length) (E.base E.c.length),.int .i64 zA,.slice none 0 0]
def ML(E:Env)(L gp g cap gl gs gh:Nat)(zD:Int):Pk:=⟨L,gp,g,gl,gs,gh,cap,E.c.length,E.c.length,E.base E.c.length,E.c,E.t,zD,nK E.c,xD E E.c.length⟩
theorem Xb:(prog.info? 79).map (·.size)=some 10:=by kernel_rfl
theorem MI{E}{w}{U G g cap I J j}{W zA}(Z:w.heap[G]?=some (.cells (QX E g cap I J j W zA) 79 (0,0)))(a0:zY w 0 (.slice (some ⟨g,0,none⟩) E.c.length cap) E.c)(O:TabIs E U I J j w)(a2:g<U)(Y:U<=G)(a3:G≠I/\G≠J/\G≠j):
  zV (ML E U G g cap I J j W) w 0 (List.replicate (E.base E.c.length) false) zA none 0 []:=by
 have a4:=(lY O.l I rfl).1;have a5:=(lY O.s J rfl).1;have a1:=(lY O.h j rfl).1;refine⟨by rw[sV];exact Z,a0,?_,?_,?_,oC _ _ _ _,⟨Y,a1⟩,nE _,mP _ _,?_,?_,?_⟩
 ·show WW w (.slice (some ⟨I,0,none⟩) (nK E.c).length E.c.length) (nK E.c);rw[nE];exact qP O.l (gD _)
 ·show WW w (.slice (some ⟨J,0,none⟩) (xD E E.c.length).length E.c.length) (xD E E.c.length);rw[mP];exact qP O.s (gD _)
 ·show VP w (.slice (some ⟨j,0,none⟩) (List.replicate (E.base E.c.length) false).length (E.base E.c.length)) (List.replicate (E.base E.c.length) false);rw[sV];exact qP O.h (gD _)
 ·show g≠G/\I≠G/\J≠G/\j≠G;omega
 ·show g≠j/\I≠j/\J≠j;have:=O.ne;omega
 ·refine⟨?_,?_,?_,?_,?_⟩ <;> (intro e;simp[blk]at e)
theorem ZB{E A L O g cap J U I j}(G:QU E)(W:Known E.c A)(Y:∀p,p<E.c.length->E.ar.getD p 0=jY E.c p)(Z:0<=j/\j<=10000):Ctx (ML E L O g cap J U I j) E A:=
 ⟨rfl,rfl,W,Y,G.zDW,λp h=>by show(nK E.c).getD p 0=_;rw[JK E.c p h,G.vk p h],λp h=>Wi E p h,G.t60,Z⟩
theorem Wj(E)(A)(d6:QU E)(Y:Known E.c A)(j9:∀p,p<E.c.length->E.ar.getD p 0=jY E.c p)(g cap q nq Z jK)(zA j)(o1:0<=zA/\zA<=5000)(m9:0<=j/\j<=10000)(p9:jK<=E.t.size)(w)(a0:zY w 0 (.slice (some ⟨g,0,none⟩) E.c.length cap) E.c)(k3:qZ w 0 (.slice (some ⟨q,0,none⟩) nq Z) (qE E.qU E.c.length))(k2:nq=(qE E.qU E.c.length).length)(S)(j5:S=search E j (E.t.size+1-jK) jK j.toNat (List.replicate (E.c.length*(E.t.size+1)*12) false) zA):
  Calls prog 18 #[.agg #[.slice (some ⟨g,0,none⟩) E.c.length cap,.slice (some ⟨q,0,none⟩) nq Z,.string E.t,.int .i64 zA],.int .i64 (jK),.int .i64 j] w λe w'=>e=.returned (.tuple #[.agg (uz S.1),.int .i64 (OU S.2)])/\Below w.heap.size w w':=by
 obtain⟨O,c8⟩:∃O,O=(w.alloc (.cells #[.slice (some ⟨g,0,none⟩) E.c.length cap,.slice (some ⟨q,0,none⟩) nq Z,.string E.t,.int .i64 zA] 43)).alloc (.cells (uz yD) 29):=⟨_,rfl⟩
 have B1:Below w.heap.size w O:=by rw[c8];exact((lK _ _).alloc (lF _) _).alloc (by simp) _
 have T1:O.heap[w.heap.size]?=some (.cells #[.slice (some ⟨g,0,none⟩) E.c.length cap,.slice (some ⟨q,0,none⟩) nq Z,.string E.t,.int .i64 zA] 43 (0,0)):=by rw[c8];exact nN _ _ _
 have i9:O.heap[w.heap.size+1]?=some (.cells (uz yD) 29 (0,0)):=by rw[c8];exact nA _ _ _
 have i5:Hid (O.heap.size=w.heap.size+2):=by rw[c8];show _=_;simp
 have f6:=hid (λz hz=>QV E d6 g cap q nq Z zA z (a0.below hz) (k3.below hz) k2);have d1:Hid (zY w 0 (.slice (some ⟨g,0,none⟩) E.c.length cap) E.c/\g<w.heap.size):=⟨a0,(lY a0 g rfl).2⟩
 have h8:Hid (∀U G I h:Nat,Ctx (ML E w.heap.size U g cap G I h j) E A):=λU G I h=>ZB d6 Y j9 m9
 have i3:=hid j5;have f3:=hid B1;have i4:=hid i9;have q7:=d6.t60;have p7:=d6.len;clear a0 k3 k2 d6 Y j9 j5 B1 i9
 go_in
 go_upto_region 1 with fail
 show Code.wp _ _ _ _ ((w.alloc (.cells #[.slice (some ⟨g,0,none⟩) E.c.length cap,.slice (some ⟨q,0,none⟩) nq Z,.string E.t,.int .i64 zA] 43)).alloc (.cells (uz yD) 29));rw[<-c8];clear c8;generalize d9:w.heap.size=n at *
 go_cut [8] (λo6 f1=>∃U G I h,o6=.pointer (some ⟨U,0,none⟩)/\zV (ML E n U g cap G I h j) f1 0 (List.replicate (E.base E.c.length) false) zA none 0 []/\Below n w f1/\f1.heap[n]?=some (.cells #[.slice (some ⟨g,0,none⟩) E.c.length cap,.slice (some ⟨q,0,none⟩) nq Z,.string E.t,.int .i64 zA] 43 (0,0))/\f1.heap[n+1]?=some (.cells (uz yD) 29 (0,0))/\n+2<=U/\h≠n+1/\h≠n)
 case first =>
  have b2:∀z:World,(z.heap[n]?=some (.cells #[.slice (some ⟨g,0,none⟩) E.c.length cap,.slice (some ⟨q,0,none⟩) nq Z,.string E.t,.int .i64 zA] 43 (0,0))/\z.heap[n+1]?=some (.cells (uz yD) 29 (0,0)))->z.cell? ⟨n,0,none⟩=some (.slice (some ⟨g,0,none⟩) E.c.length cap)/\z.cell? ⟨n,2,none⟩=some (.string E.t):=λz hz=>⟨(zB hz.1).1 0,(zB hz.1).1 2⟩
  have b5:∀z:World,(z.heap[n]?=some (.cells #[.slice (some ⟨g,0,none⟩) E.c.length cap,.slice (some ⟨q,0,none⟩) nq Z,.string E.t,.int .i64 zA] 43 (0,0))/\z.heap[n+1]?=some (.cells (uz yD) 29 (0,0)))->z.rangeAt n 0 (#[.slice (some ⟨g,0,none⟩) E.c.length cap,.slice (some ⟨q,0,none⟩) nq Z,.string E.t,.int .i64 zA]:Array Value).toList:=λz hz=>yE hz.1
  have S0:O.drew.heap[n]?=some (.cells #[.slice (some ⟨g,0,none⟩) E.c.length cap,.slice (some ⟨q,0,none⟩) nq Z,.string E.t,.int .i64 zA] 43 (0,0))/\O.drew.heap[n+1]?=some (.cells (uz yD) 29 (0,0)):=⟨T1,i4.o⟩
  refine wp_region_held_drew (S:=λz:World=>z.heap[n]?=some (.cells #[.slice (some ⟨g,0,none⟩) E.c.length cap,.slice (some ⟨q,0,none⟩) nq Z,.string E.t,.int .i64 zA] 43 (0,0))/\z.heap[n+1]?=some (.cells (uz yD) 29 (0,0))) (by kernel_rfl) S0 (λc1=>?_);refine qJ 0 14 (.pointer (some ⟨n,0,none⟩)) rfl (by kernel_rfl) (λ_ _ _ a0=>a0) (λz hz=>by clear c1 hz b2 b5 S0 T1;go_simp) (by assumption) ?_;refine qJ 1 15 (.slice (some ⟨g,0,none⟩) E.c.length cap) rfl (by kernel_rfl) (λ_ _ _ a0=>a0) (λz hz=>by obtain⟨b3,o3⟩:=b2 z hz;clear c1 hz b2 b5 S0 T1;go_simp) (by assumption) ?_;refine qJ 2 16 (.pointer (some ⟨n,2,none⟩)) rfl (by kernel_rfl) (λ_ _ _ a0=>a0) (λz hz=>by clear c1 hz b2 b5 S0 T1;go_simp) (by assumption) ?_;refine qJ 3 17 (.string E.t) rfl (by kernel_rfl) (λ_ _ _ a0=>a0) (λz hz=>by obtain⟨b3,o3⟩:=b2 z hz;clear c1 hz b2 b5 S0 T1;go_simp) (by assumption) ?_;refine qJ 4 18 (.int .i64 j) rfl (by kernel_rfl) (λ_ _ _ a0=>a0) (λz hz=>by clear c1 hz b2 b5 S0 T1;go_simp) (by assumption) ?_;refine MN 5 19 (.agg #[.slice (some ⟨g,0,none⟩) E.c.length cap,.slice (some ⟨q,0,none⟩) nq Z,.string E.t,.int .i64 zA]) rfl (by kernel_rfl) (λ_ _ _ a0=>a0) (yieldsIf_load_mid (by rfl) _ _ rfl _ _ rfl _ _ b5 underlying43 rfl (by kernel_rfl)) (by assumption) ?_;simp only[Act.put,lD,lJ,lI];have b3:=i5.o;refine wpAnyH_ready (rs:=[6,8]) (by kernel_rfl) (by simp) ?_;refine AllReadyH.cons rfl (λK Y=>?_) (AllReadyH.cons rfl (λK Y=>?_) AllReadyH.nil)
  ·clear b2 b5;have h6:=hid f3.o.drew
   go_simp
   refine(f6.o O.drew h6.o).mono ?_;rintro e J ⟨G,I,h,rfl,a6,a7⟩;have b1:J.heap[n]?=some (.cells #[.slice (some ⟨g,0,none⟩) E.c.length cap,.slice (some ⟨q,0,none⟩) nq Z,.string E.t,.int .i64 zA] 43 (0,0))/\J.heap[n+1]?=some (.cells (uz yD) 29 (0,0)):=⟨(a7.block n (by simp;omega)).trans S0.1,(a7.block (n+1) (by simp;omega)).trans S0.2⟩
   go_simp
   refine Y.out _ _ b1 (λg1=>?_);clear Y K;refine qJ 7 21 (.agg (QX E g cap G I h j zA)) rfl (by kernel_rfl) (λ_ _ _ a0=>a0) (λz hz=>by refine DJ (t:=79) (parts:=#[(0,.tmp 15),(1,.tmp 17),(2,.tmp 18),(4,.tmp 20)]) rfl ?_;simp only[rU,oZ,sO];unfold QX;kernel_rfl) (by assumption) ?_;simp only[Act.put,lD,lJ,lI];refine wpAnyH_ready (rs:=[8]) (by kernel_rfl) (by simp) ?_;refine AllReadyH.cons rfl (λK Y=>?_) AllReadyH.nil;have o2:n+2<=J.heap.size:=by have:=a7.size;simp at this;omega
   have l5:Hid (TabIs E O.drew.heap.size G I h J/\Below O.drew.heap.size O.drew J):=⟨a6,a7⟩
   clear a6 a7
   go_simp
   have c5:(J.alloc (.cells #[.slice none 0 0,.string ⟨#[]⟩,.int .i64 0,.int .i64 0,.int .i64 0,.slice none 0 0,.slice none 0 0,.slice none 0 0,.int .i64 0,.slice none 0 0] 79)).heap[J.heap.size]?=some (.cells #[.slice none 0 0,.string ⟨#[]⟩,.int .i64 0,.int .i64 0,.int .i64 0,.slice none 0 0,.slice none 0 0,.slice none 0 0,.int .i64 0,.slice none 0 0] 79 (0,0)):=gF _ _;have e8:(J.alloc (.cells #[.slice none 0 0,.string ⟨#[]⟩,.int .i64 0,.int .i64 0,.int .i64 0,.slice none 0 0,.slice none 0 0,.slice none 0 0,.int .i64 0,.slice none 0 0] 79)).heap[n]?=some (.cells #[.slice (some ⟨g,0,none⟩) E.c.length cap,.slice (some ⟨q,0,none⟩) nq Z,.string E.t,.int .i64 zA] 43 (0,0))/\(J.alloc (.cells #[.slice none 0 0,.string ⟨#[]⟩,.int .i64 0,.int .i64 0,.int .i64 0,.slice none 0 0,.slice none 0 0,.slice none 0 0,.int .i64 0,.slice none 0 0] 79)).heap[n+1]?=some (.cells (uz yD) 29 (0,0)):=⟨(kQ _ _ _ (by omega)).trans b1.1,(kQ _ _ _ (by omega)).trans b1.2⟩
   have d4:Below J.heap.size J (J.alloc (.cells #[.slice none 0 0,.string ⟨#[]⟩,.int .i64 0,.int .i64 0,.int .i64 0,.slice none 0 0,.slice none 0 0,.slice none 0 0,.int .i64 0,.slice none 0 0] 79)):=(lK _ _).alloc (lF _) _;have r4:(J.alloc (.cells #[.slice none 0 0,.string ⟨#[]⟩,.int .i64 0,.int .i64 0,.int .i64 0,.slice none 0 0,.slice none 0 0,.slice none 0 0,.int .i64 0,.slice none 0 0] 79)).heap.size=J.heap.size+1:=by simp
   refine Y.out _ _ e8 (λg2=>?_);clear Y K;generalize J.alloc (.cells #[.slice none 0 0,.string ⟨#[]⟩,.int .i64 0,.int .i64 0,.int .i64 0,.slice none 0 0,.slice none 0 0,.slice none 0 0,.int .i64 0,.slice none 0 0] 79)=b0 at *;have d7:(b0).there J.heap.size 0 (QX E g cap G I h j zA).size:=vC (zB c5).1 (zB c5).2 10 (lF _);refine Bu 9 _ rfl rfl (by kernel_rfl) (by kernel_rfl) _ _ _ rfl J.heap.size 0 (QX E g cap G I h j zA) (by kernel_rfl) (by kernel_rfl) d7 (by rw[Xb];rfl) (by simp[QX,Value.oneCell']) rfl ?_;have a3:=Ck c5 (QX E g cap G I h j zA) rfl;have a1:∀i,i≠J.heap.size->((b0).setCells J.heap.size 0 (QX E g cap G I h j zA).toList).heap[i]?=(b0).heap[i]?:=λi a2=>vG J.heap.size _ 0 _ i a2
   have a4:=(below_setCells J.heap.size (QX E g cap G I h j zA).toList 0 (b0) n (by simp at *;omega)).1;generalize b0.setCells J.heap.size 0 (QX E g cap G I h j zA).toList=W at *
   have a5:Hid (zV (ML E n J.heap.size g cap G I h j) W 0 (List.replicate (E.base E.c.length) false) zA none 0 []/\Below n w W/\(W.heap[n]?=some (.cells #[.slice (some ⟨g,0,none⟩) E.c.length cap,.slice (some ⟨q,0,none⟩) nq Z,.string E.t,.int .i64 zA] 43 (0,0))/\W.heap[n+1]?=some (.cells (uz yD) 29 (0,0)))/\n+2<=J.heap.size/\h≠n+1/\h≠n):=by
    obtain⟨c2,o4⟩:=l5.o;have q8:O.drew.heap.size=n+2:=by simpa using b3
    have g0:=h6.o.trans (o4.mono (by omega));have k1:=lY c2.l G rfl;have k5:=lY c2.s I rfl;have a8:=lY c2.h h rfl;have g6:=d1.o.2
    have h2:TabIs E n G I h W:=by
     refine⟨?_,?_,?_,c2.ne⟩
     ·have t:=c2.l;unfold qZ at t |-;rw[nE]at t |-;exact qP (zR t (λi a2=>by cases a2;rw[a1 G (by omega),d4.block G k1.2])) (by omega)
     ·have t:=c2.s;unfold qZ at t |-;rw[mP]at t |-;exact qP (zR t (λi a2=>by cases a2;rw[a1 I (by omega),d4.block I k5.2])) (by omega)
     ·have t:=c2.h;unfold yN at t |-;rw[sV]at t |-;exact qP (zR t (λi a2=>by cases a2;rw[a1 h (by omega),d4.block h a8.2])) (by omega)
    have c0:=(g0.trans (d4.mono (by omega))).trans a4;refine⟨MI a3 (d1.o.1.below (by first | exact c0|(rw[d9];exact c0))) h2 g6 (by omega) ⟨by omega,by omega,by omega⟩,c0,⟨(a1 n (by omega)).trans e8.1,(a1 (n+1) (by omega)).trans e8.2⟩,o2,by omega,by omega⟩
   refine⟨a5.o.2.2.1,?_⟩;clear a3 a1 a4 c1 g1 g2 d7 c5 d4 e8 b1 S0;go_wp2_with fail
   go_meet
   case rel=>exact⟨J.heap.size,G,I,h,rfl,a5.o.1,a5.o.2.1,a5.o.2.2.1.1,a5.o.2.2.1.2,a5.o.2.2.2⟩
  ·clear b2 b5;have c5:(O.drew.alloc (.cells #[.slice none 0 0,.string ⟨#[]⟩,.int .i64 0,.int .i64 0,.int .i64 0,.slice none 0 0,.slice none 0 0,.slice none 0 0,.int .i64 0,.slice none 0 0] 79)).heap[O.heap.size]?=some (.cells #[.slice none 0 0,.string ⟨#[]⟩,.int .i64 0,.int .i64 0,.int .i64 0,.slice none 0 0,.slice none 0 0,.slice none 0 0,.int .i64 0,.slice none 0 0] 79 (0,0)):=gF O.drew _;have S3:(O.drew.alloc (.cells #[.slice none 0 0,.string ⟨#[]⟩,.int .i64 0,.int .i64 0,.int .i64 0,.slice none 0 0,.slice none 0 0,.slice none 0 0,.int .i64 0,.slice none 0 0] 79)).heap[n]?=some (.cells #[.slice (some ⟨g,0,none⟩) E.c.length cap,.slice (some ⟨q,0,none⟩) nq Z,.string E.t,.int .i64 zA] 43 (0,0))/\(O.drew.alloc (.cells #[.slice none 0 0,.string ⟨#[]⟩,.int .i64 0,.int .i64 0,.int .i64 0,.slice none 0 0,.slice none 0 0,.slice none 0 0,.int .i64 0,.slice none 0 0] 79)).heap[n+1]?=some (.cells (uz yD) 29 (0,0)):=⟨(kQ _ _ _ (by simp;omega)).trans S0.1,(kQ _ _ _ (by simp;omega)).trans S0.2⟩
   have h7:Hid (Below n w (O.drew.alloc (.cells #[.slice none 0 0,.string ⟨#[]⟩,.int .i64 0,.int .i64 0,.int .i64 0,.slice none 0 0,.slice none 0 0,.slice none 0 0,.int .i64 0,.slice none 0 0] 79))):=f3.o.drew.alloc (by simp;omega) _;have d0:(O.drew.alloc (.cells #[.slice none 0 0,.string ⟨#[]⟩,.int .i64 0,.int .i64 0,.int .i64 0,.slice none 0 0,.slice none 0 0,.slice none 0 0,.int .i64 0,.slice none 0 0] 79)).heap.size=O.heap.size+1:=by simp
   have i6:=hid b3;clear b3
   go_simp
   refine Y.out _ _ S3 (λg1=>?_);clear Y K;have i7:=hid d0;clear d0;refine wpAnyH_ready (rs:=[6]) (by kernel_rfl) (by simp) ?_;refine AllReadyH.cons rfl (λK Y=>?_) AllReadyH.nil
   go_simp
   refine(f6.o _ h7.o).mono ?_;rintro e J ⟨G,I,h,rfl,a6,a7⟩;have d0:=i7.o;have b3:=i6.o;generalize O.drew.alloc (.cells #[.slice none 0 0,.string ⟨#[]⟩,.int .i64 0,.int .i64 0,.int .i64 0,.slice none 0 0,.slice none 0 0,.slice none 0 0,.int .i64 0,.slice none 0 0] 79)=c4 at *;have b1:J.heap[n]?=some (.cells #[.slice (some ⟨g,0,none⟩) E.c.length cap,.slice (some ⟨q,0,none⟩) nq Z,.string E.t,.int .i64 zA] 43 (0,0))/\J.heap[n+1]?=some (.cells (uz yD) 29 (0,0)):=⟨(a7.block n (by omega)).trans S3.1,(a7.block (n+1) (by omega)).trans S3.2⟩
   have f2:=(a7.block O.heap.size (by omega)).trans c5;clear d0 b3
   go_simp
   refine Y.out _ _ b1 (λg2=>?_);clear Y K;refine qJ 7 21 (.agg (QX E g cap G I h j zA)) rfl (by kernel_rfl) (λ_ _ _ a0=>a0) (λz hz=>by refine DJ (t:=79) (parts:=#[(0,.tmp 15),(1,.tmp 17),(2,.tmp 18),(4,.tmp 20)]) rfl ?_;simp only[rU,oZ,sO];unfold QX;kernel_rfl) (by assumption) ?_;simp only[Act.put,lD,lJ,lI];have d0:=i7.o;have b3:=i6.o;have d7:J.there O.heap.size 0 (QX E g cap G I h j zA).size:=vC (zB f2).1 (zB f2).2 10 (lF _);refine Bu 9 _ rfl rfl (by kernel_rfl) (by kernel_rfl) _ _ _ rfl O.heap.size 0 (QX E g cap G I h j zA) (by kernel_rfl) (by kernel_rfl) d7 (by rw[Xb];rfl) (by simp[QX,Value.oneCell']) rfl ?_;have a3:=Ck f2 (QX E g cap G I h j zA) rfl;have a1:∀i,i≠O.heap.size->(J.setCells O.heap.size 0 (QX E g cap G I h j zA).toList).heap[i]?=J.heap[i]?:=λi a2=>vG O.heap.size _ 0 _ i a2
   have a4:=(below_setCells O.heap.size (QX E g cap G I h j zA).toList 0 J n (by omega)).1;generalize J.setCells O.heap.size 0 (QX E g cap G I h j zA).toList=W at *
   have a5:Hid (zV (ML E n O.heap.size g cap G I h j) W 0 (List.replicate (E.base E.c.length) false) zA none 0 []/\Below n w W/\(W.heap[n]?=some (.cells #[.slice (some ⟨g,0,none⟩) E.c.length cap,.slice (some ⟨q,0,none⟩) nq Z,.string E.t,.int .i64 zA] 43 (0,0))/\W.heap[n+1]?=some (.cells (uz yD) 29 (0,0)))/\n+2<=O.heap.size/\h≠n+1/\h≠n):=by
    have g0:=h7.o.trans (a7.mono (by omega));have k1:=lY a6.l G rfl;have k5:=lY a6.s I rfl;have a8:=lY a6.h h rfl;have g6:=d1.o.2
    have h2:TabIs E n G I h W:=by
     refine⟨?_,?_,?_,a6.ne⟩
     ·have t:=a6.l;unfold qZ at t |-;rw[nE]at t |-;exact qP (zR t (λi a2=>by cases a2;rw[a1 G (by omega)])) (by omega)
     ·have t:=a6.s;unfold qZ at t |-;rw[mP]at t |-;exact qP (zR t (λi a2=>by cases a2;rw[a1 I (by omega)])) (by omega)
     ·have t:=a6.h;unfold yN at t |-;rw[sV]at t |-;exact qP (zR t (λi a2=>by cases a2;rw[a1 h (by omega)])) (by omega)
    have c0:=g0.trans a4;refine⟨MI a3 (d1.o.1.below (by first | exact c0|(rw[d9];exact c0))) h2 g6 (by omega) ⟨by omega,by omega,by omega⟩,c0,⟨(a1 n (by omega)).trans b1.1,(a1 (n+1) (by omega)).trans b1.2⟩,by omega,by omega,by omega⟩
   refine⟨a5.o.2.2.1,?_⟩;clear a3 a1 a4 c1 g1 g2 d7 c5 f2 S3 b1 S0 a6 a7 d0 b3;go_wp2_with fail
   go_meet
   case rel=>exact⟨O.heap.size,G,I,h,rfl,a5.o.1,a5.o.2.1,a5.o.2.2.1.1,a5.o.2.2.1.2,a5.o.2.2.2⟩
 case rest =>
  obtain⟨U,G,I,h,rfl,f0,f9,g4,g5,q3,q1,q2⟩:=hcut;have m0:=hid (h8.o U G I h);have p2:=hid f9
  have l7:Hid (CS (ML E n U g cap G I h j) E S none wc jK j.toNat wc):=by
   refine⟨_,_,zA,none,0,?_,jZ.refl _ _ _,Tab.start E _,by simp,o1,i3.o.symm,?_⟩
   ·have e:(ML E n U g cap G I h j).zD+1-((j.toNat+1:Nat):Int)=0:=by show j+1-_=_;omega
    rw[e];exact f0
   ·show((j.toNat:Nat):Int)<=j;omega
  have e6:Hid (∀(e4:Option Addr) (z:World),jZ (ML E n U g cap G I h j) none e4 wc z->z.heap[n]?=some (.cells #[.slice (some ⟨g,0,none⟩) E.c.length cap,.slice (some ⟨q,0,none⟩) nq Z,.string E.t,.int .i64 zA] 43 (0,0))/\z.heap[n+1]?=some (.cells (uz yD) 29 (0,0))/\Below n w z/\n+1<z.heap.size):=λe4 z hz=>by
   have n7:=(lM.1 g4).1;have n8:=(lM.1 g5).1;have m1:z.heap[n]?=wc.heap[n]?:=hz.block n n7 (by show n≠U;omega) (by show n≠h;omega) (λe=>by simp[blk]at e);have m2:z.heap[n+1]?=wc.heap[n+1]?:=hz.block (n+1) n8 (by show n+1≠U;omega) (by show n+1≠h;omega) (λe=>by simp[blk]at e);refine⟨m1.trans g4,m2.trans g5,?_,by have:=hz.size;omega⟩;have:=jZ.low f0 hz (show n<=wc.heap.size by omega);exact f9.trans this
  have p3:=hid f0.lt.1;clear f0 f9 g4 g5 h8 i3 d1 f6 f3 i4 T1 i5;have q0:(jK:Int)<=(E.t.size:Int):=by omega
  go_wp2_with fail
  go_loopw [9] (λi wr=>∃p m:Nat,jK<=p/\p<=E.t.size+1/\i=.int .i64 p/\CS (ML E n U g cap G I h j) E S none wc p m wr) (λi _=>E.t.size+1-(intOf i).toNat)
  case atStart=>exact⟨jK,j.toNat,lF _,by omega,rfl,l7.o⟩
  case round =>
   obtain⟨p,m,q5,q6,rfl,k6⟩:=hrel;have e7:=hid k6;obtain⟨p8,q9,r0,r2,r1,m8,j8,_⟩:=k6;obtain⟨l3,p0,p1,r3⟩:=e6.o _ _ j8;have l0:=(zB l3).1 2;clear m8 j8 l3 p0 p1;by_cases o0:p<=E.t.size
   ·have n5:(p:Int)<=(E.t.size:Int):=by omega
    go_wp2_with fail
    refine(Ec (p:Int) wr).mono ?_;rintro e c4 ⟨rfl,d8⟩;have b9:=hid d8;clear d8 l0;go_upto_region 6 with (refine zN 83 43 jT (by rfl) (.tmp 10) (.tmp 31) (by rfl) c4.heap.size (yH (lg p)) (by rfl) (by rfl) (by exact jP _ _) (by rfl) (kK _) (aV _) ?_;intro J a3 a1 e1 a4)
    have c6:Below wr.heap.size wr J:=b9.o.trans ((((lK _ _).alloc (lF _) _).trans (a4 _ (lF _))).mono b9.o.size);have i2:=hid (zEX m0.o c6 o0 e7.o);clear a1 e1 a4 c6 e7 b9;generalize c4.heap.size=h1 at *;go_wp2_with (refine kY 83 43 underlying83 rfl jT (by rfl) (.tmp 10) (by rfl) h1 (by rfl) a3 (kK _) ?_)
    refine i2.o.mono ?_;rintro e b0 ⟨q',b,rfl,j4⟩;have i1:=hid j4;clear j4 a3 i2;go_upto_region 7 with (refine zN 83 43 jT (by rfl) (.tmp 11) (.tmp 35) (by rfl) b0.heap.size (yH q') (by rfl) (by rfl) (by exact jP _ _) (by rfl) (kK _) (aV _) ?_;intro W a3 a1 e1 a4)
    have e5:Below b0.heap.size b0 W:=((lK _ _).alloc (lF _) _).trans (a4 _ (lF _));obtain⟨k4,c3,n4,zG,h3,o8,W',j2,j6,n2⟩:=i1.o;have g3:=j2.below e5;have c7:=FR g3;have j7:=j6.trans (jZ.below e5);have f5:Hid (jZ (ML E n U g cap G I h j) none h3 wc W/\zV (ML E n U g cap G I h j) W c3 n4 zG h3 o8 W'):=⟨j7,g3⟩
    have h9:=hid a3;have i0:Hid (q'.length=43):=k4;have l4:=hid e5;clear a3 a1 e1 a4 e5 j2 j6 g3 j7 k4 i1;generalize n6:b0.heap.size=g9 at *;rcases n2 with ⟨c9,d5⟩ | ⟨c9,g8,n1,d5⟩ | ⟨c9,g8,n0,h0,k7⟩
    ·have d3:Hid (CT 41 #[.pointer (some ⟨U,0,none⟩)] W λe w'=>e=.returned (.bool true)/\Below W.heap.size W w'):=c7.mono (λe w' a8=>⟨by rw[a8.1,c9,show decide ((ML E n U g cap G I h j).zD+1>(ML E n U g cap G I h j).zD)=true by rw[gM];omega],a8.2⟩);have d2:=hid d5;clear c7 c9 d5;go_wp2_with fail
     refine d3.o.mono ?_;rintro e b8 ⟨rfl,a9⟩;obtain⟨e2,e3,b7,l1⟩:=e6.o _ b8 (f5.o.1.trans (jZ.below a9));have b4:=hid b7;clear a9 e2 b7;go_wp2_with (refine zN 29 22 dH (by rfl) (.tmp 6) (.tmp 38) (by rfl) (n+1) (uz yD) (by rfl) (by rfl) e3 (by rfl) (xC _ rfl) (sJ _) ?_;intro l2 e0 k8 k9 b6)
     refine lT (qA 29 22 underlying29 rfl dH rfl (by rfl) e0 (xC _ rfl)) rfl ⟨?_,?_⟩
     ·rw[d2.o];rfl
     ·first | exact b4.o.trans (b6 n (by omega))|(rw[d9];exact b4.o.trans (b6 n (by omega)))
    ·have d3:Hid (CT 41 #[.pointer (some ⟨U,0,none⟩)] W λe w'=>e=.returned (.bool false)/\Below W.heap.size W w'):=c7.mono (λe w' a8=>⟨by rw[a8.1,show decide (c3>(ML E n U g cap G I h j).zD)=false by rw[lW];omega],a8.2⟩);have d2:Hid (S=(⟨true,vN p q',c3⟩,false)):=d5;subst n1;clear c7 c9 d5 g8;go_wp2_with fail
     refine d3.o.mono ?_;rintro e b8 ⟨rfl,a9⟩;have j3:=f5.o.2.below a9;have e9:=j3.cells.2.2.2.1;have m3:b8.cell? ⟨U,3,none⟩=some (.int .i64 c3):=e9;have h4:b8.heap[g9]?=some (.cells (yH q') 83 (0,0)):=(a9.block g9 (lM.1 h9.o).1).trans h9.o;have l6:Hid (jZ (ML E n U g cap G I h j) none h3 wc b8):=f5.o.1.trans (jZ.below a9);clear a9 j3 e9;go_wp2_with (refine kY 83 43 underlying83 rfl jT (by rfl) (.tmp 11) (by rfl) g9 (by rfl) h4 (kK _) ?_)
     refine(Zx (p:Int) q' i0.o c3 b8).mono ?_;rintro e o7 ⟨rfl,k0⟩;obtain⟨e2,e3,b7,l1⟩:=e6.o _ o7 (l6.o.trans (jZ.below k0));have b4:=hid b7;have hF:(vN (p:Int) q').length=20:=by have:=i0.o;simp[vN,this]
     clear k0 e2 b7 m3 h4;generalize p4:vN (p:Int) q'=F at *;go_wp2_with (refine zN 29 22 dH (by rfl) (.tmp 6) (.tmp 44) (by rfl) (n+1) (uz ⟨true,F,c3⟩) (by rfl) (by rfl) e3 (by rfl) (xC _ hF) (sJ _) ?_;intro l2 e0 k8 k9 b6)
     refine lT (qA 29 22 underlying29 rfl dH rfl (by rfl) e0 (xC _ hF)) rfl ⟨?_,?_⟩
     ·rw[d2.o];rfl
     ·first | exact b4.o.trans (b6 n (by omega))|(rw[d9];exact b4.o.trans (b6 n (by omega)))
    ·have d3:Hid (CT 41 #[.pointer (some ⟨U,0,none⟩)] W λe w'=>e=.returned (.bool false)/\Below W.heap.size W w'):=c7.mono (λe w' a8=>⟨by rw[a8.1,show decide (c3>(ML E n U g cap G I h j).zD)=false by rw[lW];omega],a8.2⟩);have l8:Hid (CS (ML E n U g cap G I h j) E S none wc (p+1) h0 W):=k7.below (by rw[n6];exact l4.o);subst n0;clear c7 c9 g8 k7;go_wp2_with fail
     refine d3.o.mono ?_;rintro e b8 ⟨rfl,a9⟩;have l9:Hid (CS (ML E n U g cap G I h j) E S none wc (p+1) h0 b8):=l8.o.below a9;clear a9;go_wp2_with fail
     go_roundw
     case rel=>exact⟨p+1,h0,by omega,by omega,by go_num,l9.o⟩
     case measure=>simp[intOf];omega
   ·have n9:p=E.t.size+1:=by omega
    have n5:decide ((p:Int)<=(E.t.size:Int))=false:=by rw[lW];omega
    have q4:decide (p<=E.t.size)=false:=by rw[lW];omega
    obtain⟨n3,kn,o5,e4,o9,f8,j0,m4,m5,m6,j1,m7⟩:=e7.o
    have d2:Hid (S=(⟨false,nowhere,j-(m:Int)⟩,false)):=by
     show _=_;rw[<-j1,n9,show E.t.size+1-(E.t.size+1)=0 by omega];rfl
    have f4:Hid (zV (ML E n U g cap G I h j) wr (j-(m:Int)) n3 o5 e4 o9 []/\jZ (ML E n U g cap G I h j) none e4 wc wr):=by
     refine⟨?_,j0⟩;have e:(ML E n U g cap G I h j).zD+1-((m+1:Nat):Int)=j-(m:Int):=by show j+1-_=_;omega
     rw[e]at f8;exact f8
    clear f8 j0 m4 m5 m6 j1 m7 e7;go_wp2_with fail
    refine(Ec (jK:Int) wr).mono ?_;rintro e c4 ⟨rfl,d8⟩;have b9:Hid (Below wr.heap.size wr c4):=d8;clear d8 l0;go_upto_region 12 with (refine zN 83 43 jT (by rfl) (.tmp 13) (.tmp 46) (by rfl) c4.heap.size (yH (lg jK)) (by rfl) (by rfl) (by exact jP _ _) (by rfl) (kK _) (aV _) ?_;intro J a3 a1 e1 a4)
    have c6:Below wr.heap.size wr J:=b9.o.trans ((((lK _ _).alloc (lF _) _).trans (a4 _ (lF _))).mono b9.o.size);obtain⟨e2,e3,b7,l1⟩:=e6.o _ J (f4.o.2.trans (jZ.below c6));have e9:J.cell? ⟨U,3,none⟩=some (.int .i64 (j-(m:Int))):=(f4.o.1.below c6).cells.2.2.2.1;have f7:=EF a3 2 20;rw[MH,QW]at f7;have b4:Hid (Below n w J):=b7;have h5:=Wh nowhere (by simp[nowhere]) (j-(m:Int));have g7:nowhere.length=20:=by simp[nowhere]
    clear a3 a1 e1 a4 c6 e2 b7 b9 f4;generalize c4.heap.size=h1 at *;generalize p5:nowhere=N at *;generalize p6:j-(m:Int)=i8 at *;refine wp_region_lit ?_;refine iQ (by rfl) (λK Y=>?_)
    go_simp
    refine Y _ _ ?_;clear Y K;refine wpList_load_mid (by rfl) 27 (.tmp 47) (by rfl) h1 2 (by rfl) (N.map (Value.int .i64)) _ f7 underlying27 rfl (by rw[Az];simp[g7]) ?_;simp only[Act.put,lD,lJ,lI];refine iQ (by rfl) (λK Y=>?_)
    go_simp
    refine Y _ _ ?_;clear Y K;refine iQ (by rfl) (λK Y=>?_)
    go_simp
    refine Y _ _ ?_;clear Y K;refine wpList_buildTo (by rfl) 29 #[(1,.tmp 48),(2,.tmp 50)] (by rfl) (some 51) rfl (uz ⟨false,N,i8⟩) (by simp only[rU,oZ,sO];exact h5) ?_;simp only[Act.put,lD,lJ,lI];clear h5 f7 e9;go_wp2_with (refine zN 29 22 dH (by rfl) (.tmp 6) (.tmp 51) (by rfl) (n+1) (uz ⟨false,N,i8⟩) (by rfl) (by rfl) e3 (by rfl) (xC _ g7) (sJ _) ?_;intro l2 e0 k8 k9 b6)
    refine lT (qA 29 22 underlying29 rfl dH rfl (by rfl) e0 (xC _ g7)) rfl ⟨?_,?_⟩
    ·rw[d2.o];rfl
    ·first | exact b4.o.trans (b6 n (by omega))|(rw[d9];exact b4.o.trans (b6 n (by omega)))
