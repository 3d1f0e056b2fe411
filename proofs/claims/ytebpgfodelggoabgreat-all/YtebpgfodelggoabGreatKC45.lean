import Derived.Test.YtebpgfodelggoabGreatKC44
import Derived.Test.YtebpgfodelggoabGreatKC21
import Derived.Test.YtebpgfodelggoabGreatKC24
import Derived.Great.BuildSlice
import Derived.Test.YtebpgfodelggoabGreatKC40
import Derived.Test.YtebpgfodelggoabGreatKC43
import Derived.Test.YtebpgfodelggoabGreatKC08
import Derived.Test.YtebpgfodelggoabGreatKC12
import Derived.Test.YtebpgfodelggoabGreatKC22
import Derived.Test.YtebpgfodelggoabGreatKC30
set_option linter.unusedVariables false
set_option linter.unusedSimpArgs false
set_option maxRecDepth 100000
set_option maxHeartbeats 16000000
namespace Go.Proofs.YtebpgfodelggoabGreat
open Go.RowKit
theorem zP4{z z':World}{L b:Nat}{A:Array Value}{t:TypeId}(h:z.heap[b]?=some (.cells A t (0,0)))(hb:Below L z z')(hl:b<L):z'.heap[b]?=some (.cells A t (0,0)):=(hb.block b hl).trans h
theorem zF5{c:List Mt.zTG}{A:Int->Mt.Att}(hK:Mt.Known c A)(t:ByteArray)(zB zI zD b:Int)(zTE:Nat)(hf:zTE<=t.size)(hr:0<=zD/\zD<=5000):(Mt.kP c t zB zI zD b zTE).1.at'.length=20:=by
 have key:∀(f p n:Nat) (kn:List Bool) (zD:Int),(0<=zD/\zD<=5000)->p+f<=t.size+1->(Mt.search (Mt.wJ c t zB zI) b f p n kn zD).1.at'.length=20:=by
  intro f;induction f with
  | zero=>intro p n kn zD _ _;simp[Mt.search,Mt.nowhere]
  | succ f ih =>
   intro p n kn zD hr hpf;have hg:=Mt.vI (Mt.wJ c t zB zI) hK.ok n n (Mt.kZ p) kn zD (lG _) (Mt.dL _ _ p hK.pos (by show p<=t.size;omega)) hr;rw[Mt.search];split
   ·rfl
   split
   ·exact Mt.zAc _ _ hg.2.2.2.1
   ·exact ih (p+1) _ _ _ hg.2.2.1 (by omega)
 exact key _ _ _ _ _ hr (by omega)
def zRK(w1:World)(c:List Mt.zTG)(zK:ByteArray)(zB zI zD zA:Int)(R:List Mt.Fnd × Int × Int)(v u i:Value)(wr:World):Prop :=
 ∃(F zTE:Nat) (qE:Int) (l:List Mt.Fnd),i=.int .i64 zTE/\u=.int .i64 qE/\zTE<=zK.size+1/\zK.size+2<=zTE+F/\l.length<=zTE/\(0<=qE/\qE<=zA)/\zAq wr w1.heap.size v l/\Below w1.heap.size w1 wr
  /\ R=Mt.xO c zK zB zI zD zA F zTE qE l
theorem zF6(E:Mt.Env)(A:Int->Mt.Att)(hT:zE4 E)(hK:Mt.Known E.c A)(har:∀p,p<E.c.length->E.ar.getD p 0=Mt.jI E.c p)(zB zI:Int)(hEv:E=Mt.wJ E.c E.t zB zI)(g cap q nq cq:Nat)(zD zA:Int)(hr:0<=zD/\zD<=5000)(hb:0<=zA/\zA<=10000)(zOT:E.t.size<=60)(w:World)
  (h:zF w 0 (.slice (some ⟨g,0,none⟩) E.c.length cap) E.c) (hq:qK w 0 (.slice (some ⟨q,0,none⟩) nq cq) (Mt.kY E.zTM E.c.length)) (hnq:nq=(Mt.kY E.zTM E.c.length).length) (R:List Mt.Fnd × Int × Int) (hR:R=Mt.xO E.c E.t zB zI zD zA (E.t.size+2) 0 0 []) :
  Calls Tryz.prog 53 #[.agg #[.slice (some ⟨g,0,none⟩) E.c.length cap,.slice (some ⟨q,0,none⟩) nq cq,.string E.t,.int .i64 zD],.int .i64 zA] w λe w'=>∃v,e=.returned (.tuple #[v,.int .i64 R.2.1,.int .i64 R.2.2])/\zAq w' w.heap.size v R.1/\Below w.heap.size w w':=by
 obtain⟨V,hV⟩:∃V:Array Value,V=#[.slice (some ⟨g,0,none⟩) E.c.length cap,.slice (some ⟨q,0,none⟩) nq cq,.string E.t,.int .i64 zD]:=⟨_,rfl⟩
 have KS:Hid (∀(b:Int) (zTE:Nat) (z:World),0<=b->b<=10000->zTE<=E.t.size->Below w.heap.size w z->Calls Tryz.prog 48 #[.agg V,.int .i64 (zTE:Int),.int .i64 b] z λe w'=>e=.returned (.tuple #[.agg (fpA (Mt.kP E.c E.t zB zI zD b zTE).1),.int .i64 (zCY (Mt.kP E.c E.t zB zI zD b zTE).2)])/\Below z.heap.size z w'):=λb zTE z h0 h1 hf hbz=>by
  rw[hV];exact zE6 E A hT hK har g cap q nq cq zTE zD b hr ⟨h0,h1⟩ hf z (h.below hbz) (hq.below hbz) hnq (Mt.kP E.c E.t zB zI zD b zTE) (by unfold Mt.kP;rw[<-hEv])
 have HLn:Hid (∀(b:Int) (zTE:Nat),zTE<=E.t.size->(Mt.kP E.c E.t zB zI zD b zTE).1.at'.length=20):=λb zTE hf=>zF5 hK E.t zB zI zD b zTE hf hr
 have HIn:Hid (∀(b:Int) (zTE:Nat),0<=b->zTE<=E.t.size->(Mt.kP E.c E.t zB zI zD b zTE).2=false->(0<=(Mt.kP E.c E.t zB zI zD b zTE).1.steps/\(Mt.kP E.c E.t zB zI zD b zTE).1.steps<=b)/\((Mt.kP E.c E.t zB zI zD b zTE).1.ok=true->∃x y:Nat,(Mt.kP E.c E.t zB zI zD b zTE).1.at'.getD 0 0=(x:Int)/\(Mt.kP E.c E.t zB zI zD b zTE).1.at'.getD 1 0=(y:Int)/\zTE<=x/\x<=y/\y<=E.t.size)):=λb zTE h0 hf ho=>Mt.zBM (Mt.wJ E.c E.t zB zI) hK.ok hK.pos b (E.t.size+1-zTE) zTE b.toNat _ zD (by show zTE+(E.t.size+1-zTE)<=E.t.size+1;omega) hr (by omega) ho
 have hV2:V[2]?=some (.string E.t):=by rw[hV];rfl
 have hVs:V.size=4:=by rw[hV];rfl
 rw[<-hV];have HV2:Hid (V[2]?=some (.string E.t)):=hV2;have HR:Hid (R=Mt.xO E.c E.t zB zI zD zA (E.t.size+2) 0 0 []):=hR;clear hV hV2 hR hq hnq h hT hK har hEv;generalize E.t=zK at *;generalize E.c=C at *;clear E A;obtain⟨w1,hw1⟩:∃w1,w1=w.alloc (.cells V 84):=⟨_,rfl⟩
 have T1:Hid (w1.heap[w.heap.size]?=some (.cells V 84 (0,0))):=by rw[hw1];exact jR _ _
 have HB1:Hid (Below w.heap.size w w1):=by rw[hw1];exact(Below.refl _ _).alloc (lG _) _
 have HZ1:Hid (w1.heap.size=w.heap.size+1):=by rw[hw1];show _=_;simp
 go_enter Tryz.func53,Tryz.ntmps53
 go_upto_region 1 with fail
 show Code.wp _ _ _ _ (w.alloc (.cells V 84));rw[<-hw1];clear hw1;generalize hn:w.heap.size=n at *;go_wp2_with fail
 obtain⟨i0,hi,hz0,hz1,hz2⟩:=info_parts Tryz.infoFp;have HIF:Hid (Tryz.prog.info? 57=some i0/\i0.zero=some (.agg (fpA Mt.vJ))/\i0.size=22/\i0.bytes=176):=⟨hi,hz0,hz1,hz2⟩
 clear hi hz0 hz1 hz2
 go_loopw [7,8,9] (λv u i wr=>zRK w1 C zK zB zI zD zA R v u i wr) (λ_ _ i _=>zK.size+2-(intOf i).toNat)
 case atStart=>exact⟨zK.size+2,0,0,[],rfl,rfl,by omega,by omega,by simp,⟨by omega,hb.1⟩,zF4 (jR _ _) (lG _),(Below.refl _ _).alloc (lG _) _,HR.out⟩
 case round =>
  clear HR;obtain⟨F,zTE,qE,l,rfl,rfl,hfr,hF,hll,hus,jS,hbr,hRa⟩:=hrel;have HOW:Hid (zAq wr w1.heap.size u7 l):=jS;have HBR:Hid (Below w1.heap.size w1 wr):=hbr;have HRA:Hid (R=Mt.xO C zK zB zI zD zA F zTE qE l):=hRa;have TR:Hid (wr.heap[n]?=some (.cells V 84 (0,0))):=zP4 T1.out hbr (by have:=HZ1.out;omega);have c2:wr.cell? ⟨n,2,none⟩=some (.string zK):=((zC TR.out).1 2).trans HV2.out;have ln:n<wr.heap.size:=(lI.1 TR.out).1;have HBW:Hid (Below n w wr):=HB1.out.trans (hbr.mono (by have:=HZ1.out;omega));have zSt:=hus.1;have zSu:=hus.2;have hb0:=hb.1;have zTH:=hb.2;clear jS hbr hRa hus;obtain⟨F,rfl⟩:∃F',F=F'+1:=⟨F-1,by omega⟩
  by_cases zTI:zK.size<zTE
  ·have HRR:Hid (R=(l,qE,0)):=by show _=_;rw[HRA.out,Mt.xO,if_pos zTI]
   have d1:decide ((zTE:Int)<=(zK.size:Int))=false:=by rw[lJ];omega
   have d2:decide (zTE<=zK.size)=false:=by rw[lJ];omega
   clear HRA zTI;go_wp2_with fail
   go_ret3
   rw[HRR.out];exact⟨_,rfl,jG HOW.out (by have:=HZ1.out;omega),by first | exact HBW.out|(rw[hn];exact HBW.out)⟩
  ·have hfT:zTE<=zK.size:=by omega
   have d1:decide ((zTE:Int)<=(zK.size:Int))=true:=by rw[decide_eq_true_eq];omega
   have d2:decide (zTE<=zK.size)=true:=by rw[decide_eq_true_eq];omega
   have hRR:=HRA.out;rw[Mt.xO,if_neg zTI]at hRR;have hS4:=HLn.out (zA-qE) zTE hfT;have hS5:=HIn.out (zA-qE) zTE (by omega) hfT;have hS6:=KS.out (zA-qE) zTE wr (by omega) (by omega) hfT HBW.out;generalize Mt.kP C zK zB zI zD (zA-qE) zTE=S at *;have HRR:Hid (R=_):=hRR;have HL:Hid (S.1.at'.length=20):=hS4;have HI:Hid (S.2=false->(0<=S.1.steps/\S.1.steps<=zA-qE)/\(S.1.ok=true->∃x y:Nat,S.1.at'.getD 0 0=(x:Int)/\S.1.at'.getD 1 0=(y:Int)/\zTE<=x/\x<=y/\y<=zK.size)):=hS5;have HS6:Hid (Calls Tryz.prog 48 #[.agg V,.int .i64 (zTE:Int),.int .i64 (zA-qE)] wr λe w'=>e=.returned (.tuple #[.agg (fpA S.1),.int .i64 (zCY S.2)])/\Below wr.heap.size wr w'):=hS6;have zs:=yP S.1 hS4;have za:=mZ S.1;clear hRR hS4 hS5 hS6 HRA zTI;go_wp2_with (refine kQ 84 4 Tryz.underlying84 rfl Tryz.sizeTk (by rfl) (.tmp 2) (by rfl) n (by rfl) TR.out hVs ?_)
   refine HS6.out.mono ?_;rintro e w3 ⟨rfl,zTL⟩;have HB3:Hid (Below wr.heap.size wr w3):=zTL;clear zTL c2 HS6;go_upto_region 6 with (refine zM 57 22 Tryz.sizeFd (by rfl) (.tmp 10) (.tmp 25) (by rfl) w3.heap.size (fpA S.1) (by rfl) (by rfl) (by exact jR _ _) (by rfl) zs za ?_;intro w4 r1 r2 r3 r4)
   have B4:Below wr.heap.size wr w4:=HB3.out.trans ((((Below.refl _ _).alloc (lG _) _).trans (r4 _ (lG _))).mono HB3.out.size);have HB4:Hid (Below wr.heap.size wr w4):=B4;have V4:Hid (w4.heap[w3.heap.size]?=some (.cells (fpA S.1) 57 (0,0))):=r1;have d0:w4.cell? ⟨w3.heap.size,0,none⟩=some (.bool S.1.ok):=((zC r1).1 _).trans (zQY _);have d21:w4.cell? ⟨w3.heap.size,21,none⟩=some (.int .i64 S.1.steps):=((zC r1).1 _).trans (zMK _ HL.out);have l4:w3.heap.size<w4.heap.size:=(lI.1 r1).1;have zSW:Hid (wr.heap.size<=w3.heap.size):=HB3.out.size;clear r1 r2 r3 r4 B4 HB3;generalize hm3:w3.heap.size=m at *;have hcs:(S.2=true)\/(S.2=false/\S.1.ok=false)\/(S.2=false/\S.1.ok=true):=by cases S.2 <;> cases S.1.ok <;> simp
   rcases hcs with ov | ⟨ov,ok⟩ | ⟨ov,ok⟩
   ·have HRH:Hid (R=([],0,14)):=by show _=_;rw[HRR.out,ov];rfl
    have HB5:Hid (Below n w w4):=HBW.out.trans (HB4.out.mono (by omega));have he:(zCY S.2 != 0)=true:=by rw[ov];rfl
    have he2:zCY S.2=14:=by rw[ov];rfl
    rw[he2]at *;clear HRR d0 d21;go_wp2_with fail
    go_ret3
    rw[HRH.out];exact⟨_,rfl,World.ownsRow_nil _ _ _ _,by first | exact HB5.out|(rw[hn];exact HB5.out)⟩
   ·have HRH:Hid (R=(l,qE+S.1.steps,0)):=by show _=_;rw[HRR.out,ov,ok];rfl
    have zTJ:=(HI.out ov).1;have zPl:=zTJ.1;have zRs:=zTJ.2;have he2:zCY S.2=0:=by rw[ov];rfl
    rw[he2]at *;rw[ok]at d0;have HB5:Hid (Below n w w4):=HBW.out.trans (HB4.out.mono (by omega));have O5:Hid (zAq w4 w1.heap.size u7 l):=qH HOW.out HB4.out;clear HRR zTJ;generalize S.1.steps=st at *;go_wp2_with fail
    go_ret3
    rw[HRH.out];exact⟨_,rfl,jG O5.out (by have:=HZ1.out;omega),by first | exact HB5.out|(rw[hn];exact HB5.out)⟩
   ·have HRH:Hid (R=Mt.xO C zK zB zI zD zA F (Mt.vO S.1) (qE+S.1.steps) (l++[S.1])):=by show _=_;rw[HRR.out,ov,ok];rfl
    have zTJ:=HI.out ov;have zPl:=zTJ.1.1;have zRs:=zTJ.1.2;obtain⟨x,y,hx,hy,hxf,hxy,hyT⟩:=zTJ.2 ok
    have HNX:Hid (Mt.vO S.1<=zK.size+1/\zTE+1<=Mt.vO S.1/\zTE<=Mt.vO S.1):=by
     show _/\_;unfold Mt.vO;rw[hx,hy];split
     ·exact⟨by omega,by omega,by omega⟩
     ·exact⟨by omega,by omega,by omega⟩
    have KN:Hid (∀z:World,Calls Tryz.prog 83 #[.agg (fpA S.1)] z λe w'=>e=.returned (.int .i64 (Mt.vO S.1:Nat))/\Below z.heap.size z w'):=λz=>zHB S.1 x y HL.out hx hy (by omega) z
    have he2:zCY S.2=0:=by rw[ov];rfl
    rw[he2]at *;rw[ok]at d0;have O5:Hid (w4.ownsRow w1.heap.size 57 22 u7 l.length (l.flatMap fpL)):=qH HOW.out HB4.out;have zQ4:∀k,u7.ownBlock=some k->w1.heap.size<=k/\k<wr.heap.size:=λk hk=>World.ownsRow.lt HOW.out k hk
    have HO7:Hid (∀k,u7.ownBlock=some k->w1.heap.size<=k/\k<wr.heap.size):=zQ4;have HFL:Hid ((fpL S.1).length=1*22):=by show _=_;rw[zP1 _ HL.out]
    have hw4:w1.heap.size<=w4.heap.size:=by have:=HBR.out.size;have:=HB4.out.size;omega
    clear HRR zTJ hx hy zQ4;generalize hst':S.1.steps=st at *;generalize hnf:Mt.vO S.1=nf at *;go_wp2_with (first|(refine kQ 57 22 Tryz.underlying57 rfl Tryz.sizeFd (by rfl) (.tmp 10) (by rfl) m (by rfl) V4.out zs ?_)|(refine zEh (by rfl) (.tmp 38) (by rfl) S.1 HL.out (by rfl) ?_)|(at_builtin;refine wpList_append_lies _ rfl _ _ 64 rfl w1.heap.size 57 i0 _ 22 176 Tryz.underlying64 HIF.out.1 HIF.out.2.1 HIF.out.2.2.1 HIF.out.2.2.2 rfl (by decide) _ l.length _ rfl (World.ownsRow.alloc O5.out _) ⟨w4.heap.size,0,none⟩ 1 1 (fpL S.1) rfl HFL.out (xU _ _ _) (zP2 _) (by decide) (by unfold maxLen;omega) (by omega) (by simp;omega) (w4.heap.size+1) (by simp) ?_))
    intro q' cap' w5 hown5 jL hqq zKh;have O6:Hid (zAq w5 w1.heap.size (.slice (some ⟨q',0,none⟩) (l.length+1) cap') (l++[S.1])):=zHA hown5;have B5:Hid (Below w1.heap.size w1 w5):=((HBR.out.trans (HB4.out.mono HBR.out.size)).alloc (by omega) _).grown jL (by simp;omega) (λk hk=>(HO7.out k hk).1)
    have V5:Hid (w5.heap[m]?=some (.cells (fpA S.1) 57 (0,0))):=by
     have hm4:m<w4.heap.size:=l4;have e1:(w4.alloc (.cells (fpL S.1).toArray 57)).heap[m]?=some (.cells (fpA S.1) 57 (0,0)):=(kT _ _ _ hm4).trans V4.out;have:=jL.block m (by simp;omega) (λe=>by have:=(HO7.out m e.symm).2;have:=zSW.out;omega);exact this.trans e1
    clear hown5 jL hqq zKh d0 d21 l4;go_wp2_with (refine kQ 57 22 Tryz.underlying57 rfl Tryz.sizeFd (by rfl) (.tmp 10) (by rfl) m (by rfl) V5.out zs ?_)
    refine(KN.out _).mono ?_;rintro e w6 ⟨rfl,hb6⟩;have O7:Hid (zAq w6 w1.heap.size (.slice (some ⟨q',0,none⟩) (l.length+1) cap') (l++[S.1])):=qH O6.out hb6;have B6:Hid (Below w1.heap.size w1 w6):=B5.out.trans (hb6.mono B5.out.size);clear hb6;obtain⟨n1,n2,n3⟩:=HNX.out;go_wp2_with fail
    go_roundw
    case rel=>exact⟨F,nf,qE+st,l++[S.1],rfl,rfl,by omega,by omega,by rw[lM];simp;omega,⟨by omega,by omega⟩,O7.out,B6.out,HRH.out⟩
    case measure=>simp[intOf];omega
theorem zIJ(p t:ByteArray)(zB zI zD zA:Int)(w:World)(hm:p.size<=maxLen)(hmt:t.size<=maxLen) :
  Calls Tryz.prog 30 #[.string p,.string t,.agg #[.int .i64 zB,.int .i64 zI,.int .i64 zD,.int .i64 zA]] w λe w'=>∃v,e=.returned (.tuple #[v,.int .i64 (Mt.qL p t zB zI zD zA).2.1,.int .i64 (Mt.qL p t zB zI zD zA).2.2])/\zAq w' w.heap.size v (Mt.qL p t zB zI zD zA).1/\Below w.heap.size w w':=by
 obtain⟨W1,hW1⟩:∃W1,W1=w.alloc (.cells #[.int .i64 zB,.int .i64 zI,.int .i64 zD,.int .i64 zA] 61):=⟨_,rfl⟩
 have T1:Hid (W1.heap[w.heap.size]?=some (.cells #[.int .i64 zB,.int .i64 zI,.int .i64 zD,.int .i64 zA] 61 (0,0))):=by rw[hW1];exact jR _ _
 have HB1:Hid (Below w.heap.size w W1):=by rw[hW1];exact(Below.refl _ _).alloc (lG _) _
 have HC:Hid (Calls Tryz.prog 47 #[.string p,.string t,.agg #[.int .i64 zB,.int .i64 zI,.int .i64 zD,.int .i64 zA]] W1 λe w'=>∃v er,e=.returned (.tuple #[.agg v,.int .i64 er])/\zHx p t zB zI zD zA W1.heap.size v er w'/\Below W1.heap.size W1 w'):=zEf p t zB zI zD zA W1 hm hmt;have zQd:Hid (_/\_):=zJs t.size 0 zB zI zD zA;obtain⟨RR,hRR⟩:∃RR,RR=Mt.qL p t zB zI zD zA:=⟨_,rfl⟩
 rw[<-hRR];have HRR:Hid (RR=Mt.qL p t zB zI zD zA):=hRR;clear hRR;go_enter Tryz.func30,Tryz.ntmps30
 go_upto_region 1 with fail
 show Code.wp _ _ _ _ (w.alloc (.cells #[.int .i64 zB,.int .i64 zI,.int .i64 zD,.int .i64 zA] 61));rw[<-hW1];clear hW1;generalize hnn:w.heap.size=n at *;go_wp2_with (refine kQ 61 4 Tryz.underlying61 rfl Tryz.sizeOpt (by rfl) (.tmp 5) (by rfl) n (by rfl) T1.out (by rfl) ?_)
 refine HC.out.mono ?_;rintro e w3 ⟨v,er,rfl,hPr,zTL⟩;have HPR:Hid (zHx p t zB zI zD zA W1.heap.size v er w3):=hPr;have hvs:v.size=4:=hPr.1;have hva:v.all (·.oneCell')=true:=hPr.2.1;have T3:Hid (w3.heap[n]?=some (.cells #[.int .i64 zB,.int .i64 zI,.int .i64 zD,.int .i64 zA] 61 (0,0))):=(zTL.block n (lI.1 T1.out).1).trans T1.out;have HB3:Hid (Below n w w3):=HB1.out.trans (zTL.mono (Nat.le_of_lt (lI.1 T1.out).1));clear hPr zTL HC;go_upto_region 2 with (refine zM 84 4 Tryz.sizeTk (by rfl) (.tmp 9) (.tmp 16) (by rfl) w3.heap.size v (by rfl) (by rfl) (by exact jR _ _) (by rfl) hvs hva ?_;intro w5 r1 r2 r3 r4)
 have B5:Below w3.heap.size w3 w5:=((Below.refl _ _).alloc (lG _) _).trans (r4 _ (lG _));have T5:=(B5.block n (lI.1 T3.out).1).trans T3.out;have HB5:Hid (Below n w w5):=HB3.out.trans (B5.mono (Nat.le_of_lt (lI.1 T3.out).1));have o3:w5.cell? ⟨n,3,none⟩=some (.int .i64 zA):=(zC T5).1 3;have l5:n<w5.heap.size:=(lI.1 T5).1;have V5:Hid (w5.heap[w3.heap.size]?=some (.cells v 84 (0,0))):=r1;have HKP:Hid (Below w3.heap.size w3 w5):=B5;clear r1 r2 r3 r4 B5 T5 HB1 HB3;generalize hm3:w3.heap.size=m3 at *;rcases HPR.out.2.2 with ⟨hk,rfl⟩ | ⟨hk,hmp,rfl⟩ | ⟨hk,hmp,rfl,g,cap,q,nq,cq,hv,hci,hri,hnq⟩
 ·have HE:Hid (RR=([],0,(Mt.kC p).2)):=by show _=_;rw[HRR.out];unfold Mt.qL;rw[if_pos hk]
  have hne:((Mt.kC p).2 != 0)=true:=by simpa using hk
  clear hk;generalize (Mt.kC p).2=er at *;go_wp2_with fail
  go_ret3
  rw[HE.out];exact⟨_,rfl,World.ownsRow_nil _ _ _ _,by first | exact HB5.out|(rw[hnn];exact HB5.out)⟩
 ·have HE:Hid (RR=([],0,yK t.size zB zI zD zA)):=by
   show _=_;rw[HRR.out];unfold Mt.qL;rw[if_neg (by omega),zQd.out.1 hmp,if_pos hmp]
  have hne:(yK t.size zB zI zD zA != 0)=true:=by simpa using hmp
  clear hk hmp;generalize yK t.size zB zI zD zA=er at *;go_wp2_with fail
  go_ret3
  rw[HE.out];exact⟨_,rfl,World.ownsRow_nil _ _ _ _,by first | exact HB5.out|(rw[hnn];exact HB5.out)⟩
 ·have h0:=(zQd.out.2 hmp).1 ⟨by omega,by omega⟩;obtain⟨zOT,hrm,hbd⟩:=zMU hmp;obtain⟨A,hK⟩:=Mt.dW p (fT p hk);have hTC:=zMT p t zB zI hk A hK zOT;obtain⟨S,hS⟩:∃S,S=Mt.xO (Mt.kC p).1 t zB zI zD zA (t.size+2) 0 0 []:=⟨_,rfl⟩
  have HE:Hid (RR=S):=by show _=_;rw[HRR.out];unfold Mt.qL;rw[if_neg (by omega),h0,if_neg (by omega),<-hS]
  have zP0:=HKP.out
  have HSR:Hid (Calls Tryz.prog 53 #[.agg v,.int .i64 zA] w5 λe w'=>∃u,e=.returned (.tuple #[u,.int .i64 S.2.1,.int .i64 S.2.2])/\zAq w' w5.heap.size u S.1/\Below w5.heap.size w5 w'):=by
   rw[hv];exact zF6 (Mt.wJ (Mt.kC p).1 t zB zI) A hTC hK (λq hq=>zJr _ t zB zI q hq) zB zI rfl g cap q nq cq zD zA hrm hbd zOT w5 ((hci.below (by rw[hm3];exact zP0)).base (Nat.zero_le _)) (jG (hri.below (by rw[hm3];exact zP0)) (Nat.zero_le _)) hnq S hS
  have hz0:((0:Int) != 0)=false:=rfl;clear hv hci hri hnq hTC hK hS h0 hmp hk zP0;go_wp2_with (refine kQ 84 4 Tryz.underlying84 rfl Tryz.sizeTk (by rfl) (.tmp 9) (by rfl) m3 (by rfl) V5.out hvs ?_)
  refine HSR.out.mono ?_;rintro e w7 ⟨u,rfl,ho7,hb7⟩;have HO7:Hid (zAq w7 n u S.1):=jG ho7 (by omega);have HB7:Hid (Below n w w7):=HB5.out.trans (hb7.mono (by omega));clear hb7 ho7 o3;go_wp2_with fail
  go_ret3
  rw[HE.out];exact⟨_,rfl,by first | exact HO7.out|(rw[hnn];exact HO7.out),by first | exact HB7.out|(rw[hnn];exact HB7.out)⟩
theorem Tryz.sizeOpL:(Tryz.prog.info? 26).map (·.size)=some 8:=by kernel_rfl
def zEi:Prop:=∀(p t:ByteArray) (zB zI zD zA:Int) (z:World),p.size<=maxLen->t.size<=maxLen->Calls Tryz.prog 30 #[.string p,.string t,.agg #[.int .i64 zB,.int .i64 zI,.int .i64 zD,.int .i64 zA]] z λe w'=>∃v,e=.returned (.tuple #[v,.int .i64 (Mt.qL p t zB zI zD zA).2.1,.int .i64 (Mt.qL p t zB zI zD zA).2.2])/\pX w' z.heap.size v (Mt.qL p t zB zI zD zA).1/\Below z.heap.size z w'
theorem zKH:zEi:=λp t zB zI zD zA z hp ht=>zIJ p t zB zI zD zA z hp ht
theorem zMV{w:World}{base g cap n:Nat}{xs:List Value}(h:w.ownsRow base 57 22 (.slice (some ⟨g,0,none⟩) n cap) n xs)(k:Nat)(hk:k<n):w.there g (k*22) 22:=by
 intro j hj;have hl:=h.1
 have zTI:k*22+j<n*22:=by
  have:(k+1)*22<=n*22:=Nat.mul_le_mul_right _ hk;rw[Nat.add_mul]at this;omega
 have:=World.ownsRow.cellAt h (k*22+j) (by omega);rw[this];exact⟨by rw[lK (by omega)];rfl,World.ownsRow.frozenAt h (k*22+j)⟩
theorem zIK(KP:zEi)(o:Stp)(w:World)(hp:o.p.size<=maxLen)(ht:o.t.size<=maxLen) :
  Calls Tryz.prog 14 #[opV o] w λe w'=>e=.returned (.bool true)/\Below w.heap.size w w':=by
 have KO:Hid (∀z:World,Calls Tryz.prog 27 #[opV o] z λe w'=>e=.returned (.agg #[.int .i64 o.zB,.int .i64 o.zI,.int .i64 o.zD,.int .i64 o.zA])/\Below z.heap.size z w'):=λz=>zDK o z
 have K1:Hid (∀z:World,Calls Tryz.prog 30 #[.string o.p,.string o.t,.agg #[.int .i64 o.zB,.int .i64 o.zI,.int .i64 o.zD,.int .i64 o.zA]] z λe w'=>∃v,e=.returned (.tuple #[v,.int .i64 (Mt.qL o.p o.t o.zB o.zI o.zD o.zA).2.1,.int .i64 (Mt.qL o.p o.t o.zB o.zI o.zD o.zA).2.2])/\pX w' z.heap.size v (Mt.qL o.p o.t o.zB o.zI o.zD o.zA).1/\Below z.heap.size z w'):=λz=>KP o.p o.t o.zB o.zI o.zD o.zA z hp ht
 have K2:Hid (∀z:World,Calls Tryz.prog 31 #[.string o.p,.string o.t,.agg #[.int .i64 o.zB,.int .i64 o.zI,.int .i64 o.zD,.int .i64 o.zA]] z λe w'=>∃v,e=.returned (.tuple #[v,.int .i64 (Mt.qL o.p o.t o.zB o.zI o.zD o.zA).2.1,.int .i64 (Mt.qL o.p o.t o.zB o.zI o.zD o.zA).2.2])/\pX w' z.heap.size v (Mt.qL o.p o.t o.zB o.zI o.zD o.zA).1/\Below z.heap.size z w'):=λz=>zEp o.p o.t o.zB o.zI o.zD o.zA z hp ht
 obtain⟨zMZ,zRL⟩:=Mt.zFD o.p o.t o.zB o.zI o.zD o.zA;have KS:Hid (∀(va vb:Value) (z:World),pX z 0 va (Mt.qL o.p o.t o.zB o.zI o.zD o.zA).1->pX z 0 vb (Mt.qL o.p o.t o.zB o.zI o.zD o.zA).1->Calls Tryz.prog 32 #[va,vb] z λe w'=>e=.returned (.bool true)/\Below z.heap.size z w'):=λva vb z ha hb=>zFx _ zMZ va vb z ha hb zRL
 have zSX:Hid (∀f∈(Mt.qL o.p o.t o.zB o.zI o.zD o.zA).1,f.at'.length=20):=zMZ;clear zMZ;generalize Mt.qL o.p o.t o.zB o.zI o.zD o.zA=R at *;have HN:Hid ((w.alloc (.cells (opA o) 26 (0,0))).heap[w.heap.size]?=some (.cells (opA o) 26 (0,0))):=heap_alloc_new _ _;have HB:Below w.heap.size w (w.alloc (.cells (opA o) 26 (0,0))):=(Below.refl _ _).alloc (lG _) _;have HSz:w.heap.size<(w.alloc (.cells (opA o) 26 (0,0))).heap.size:=by simp
 unfold opV;go_enter Tryz.func14,Tryz.ntmps14
 go_upto_region 1 with fail
 generalize hW0:w.alloc (.cells (opA o) 26 (0,0))=W0 at *;have SD:w.heap.size<W0.drew.heap.size:=HSz;have ND:W0.drew.heap[w.heap.size]?=some (.cells (opA o) 26 (0,0)):=HN.out;have BD:Below w.heap.size w W0.drew:=HB.drew
 go_cut [3,4,5] (λs3 s4 s5 wx=>s4=.int .i64 R.2.1/\s5=.int .i64 R.2.2/\pX wx (w.heap.size+1) s3 R.1/\wx.heap[w.heap.size]?=some (.cells (opA o) 26 (0,0))/\Below w.heap.size w wx)
 case first =>
  have hc1:∀z:World,z.heap[w.heap.size]?=some (.cells (opA o) 26 (0,0))->z.cell? ⟨w.heap.size,1,none⟩=some (.string o.p):=λz hz=>(zC hz).1 1
  have hc2:∀z:World,z.heap[w.heap.size]?=some (.cells (opA o) 26 (0,0))->z.cell? ⟨w.heap.size,2,none⟩=some (.string o.t):=λz hz=>(zC hz).1 2
  have hcr:∀z:World,z.heap[w.heap.size]?=some (.cells (opA o) 26 (0,0))->z.rangeAt w.heap.size 0 (opA o).toList:=λz hz=>yI hz
  refine wp_region_held_drew (S:=λz:World=>z.heap[w.heap.size]?=some (.cells (opA o) 26 (0,0))) (by kernel_rfl) HN.out (λhHeld=>?_);refine kD 0 12 (.pointer (some ⟨w.heap.size,1,none⟩)) rfl rfl (by kernel_rfl) (by kernel_rfl) (by kernel_rfl) (λ_ _ _ h=>h) (Or.inl ⟨by rfl,λz hz=>by clear hz;try clear hHeld;try clear hc1 hc2 hcr;go_simp⟩) (by assumption) ?_;simp only[Act.put,lC,lD,lF];refine kD 1 13 (.string o.p) rfl rfl (by kernel_rfl) (by kernel_rfl) (by kernel_rfl) (λ_ _ _ h=>h) (Or.inl ⟨by rfl,λz hz=>by have h1:=hc1 z hz;have h2:=hc2 z hz;clear hz;try clear hHeld;try clear hc1 hc2 hcr;go_simp⟩) (by assumption) ?_;simp only[Act.put,lC,lD,lF];refine kD 2 14 (.pointer (some ⟨w.heap.size,2,none⟩)) rfl rfl (by kernel_rfl) (by kernel_rfl) (by kernel_rfl) (λ_ _ _ h=>h) (Or.inl ⟨by rfl,λz hz=>by clear hz;try clear hHeld;try clear hc1 hc2 hcr;go_simp⟩) (by assumption) ?_;simp only[Act.put,lC,lD,lF];refine kD 3 15 (.string o.t) rfl rfl (by kernel_rfl) (by kernel_rfl) (by kernel_rfl) (λ_ _ _ h=>h) (Or.inl ⟨by rfl,λz hz=>by have h1:=hc1 z hz;have h2:=hc2 z hz;clear hz;try clear hHeld;try clear hc1 hc2 hcr;go_simp⟩) (by assumption) ?_;simp only[Act.put,lC,lD,lF];refine kD 4 16 (opV o) rfl rfl (by kernel_rfl) (by kernel_rfl) (by kernel_rfl) (λ_ _ _ h=>h) (yieldsIf_load_mid (by rfl) _ _ rfl _ _ rfl _ _ hcr Tryz.underlying26 rfl (by rw[Tryz.sizeOpL];rfl)) (by assumption) ?_;simp only[Act.put,lC,lD,lF];clear hc1 hc2 hcr hHeld;refine wpAnyH_ready (rs:=[5]) (by kernel_rfl) (by simp) ?_;refine AllReadyH.cons rfl (λK hK=>?_) AllReadyH.nil
  go_simp
  refine(KO.out _).mono ?_;rintro e w1 ⟨rfl,hb⟩;have Nw1:w1.heap[w.heap.size]?=some (.cells (opA o) 26 (0,0)):=(hb.block _ SD).trans ND;have Sw1:w.heap.size<w1.heap.size:=Nat.lt_of_lt_of_le SD hb.size;have Bw1:Below w.heap.size w w1:=BD.trans (hb.mono (Nat.le_of_lt SD));clear hb
  go_simp
  refine hK.out _ _ Nw1 (λhH=>?_);clear hK K hH;refine wpAnyH_ready (rs:=[6]) (by kernel_rfl) (by simp) ?_;refine AllReadyH.cons rfl (λK hK=>?_) AllReadyH.nil
  go_simp
  refine(K1.out w1).mono ?_;rintro e w2 ⟨v,rfl,ov,hb⟩;have Nw2:w2.heap[w.heap.size]?=some (.cells (opA o) 26 (0,0)):=(hb.block _ Sw1).trans Nw1;have Bw2:Below w.heap.size w w2:=Bw1.trans (hb.mono (Nat.le_of_lt Sw1));have OV:Hid (pX w2 (w.heap.size+1) v R.1):=jG ov Sw1;clear hb ov
  go_simp
  refine hK.out _ _ Nw2 (λhH=>?_);clear hK K;refine kD 7 11 (.tuple #[v,.int .i64 R.2.1,.int .i64 R.2.2]) rfl rfl (by kernel_rfl) (by kernel_rfl) (by kernel_rfl) (λ_ _ _ h=>h) (Or.inl ⟨by rfl,λz hz=>by clear hz hH;go_simp⟩) (by assumption) ?_;simp only[Act.put,lC,lD,lF];refine kD 8 19 v rfl rfl (by kernel_rfl) (by kernel_rfl) (by kernel_rfl) (λ_ _ _ h=>h) (Or.inl ⟨by rfl,λz hz=>by clear hz hH;go_simp⟩) (by assumption) ?_;simp only[Act.put,lC,lD,lF];refine kD 9 20 (.int .i64 R.2.1) rfl rfl (by kernel_rfl) (by kernel_rfl) (by kernel_rfl) (λ_ _ _ h=>h) (Or.inl ⟨by rfl,λz hz=>by clear hz hH;go_simp⟩) (by assumption) ?_;simp only[Act.put,lC,lD,lF];refine kD 10 21 (.int .i64 R.2.2) rfl rfl (by kernel_rfl) (by kernel_rfl) (by kernel_rfl) (λ_ _ _ h=>h) (Or.inl ⟨by rfl,λz hz=>by clear hz hH;go_simp⟩) (by assumption) ?_;simp only[Act.put,lC,lD,lF];refine kD 11 3 v rfl rfl (by kernel_rfl) (by kernel_rfl) (by kernel_rfl) (λ_ _ _ h=>h) (Or.inl ⟨by rfl,λz hz=>by clear hz hH;go_simp⟩) (by assumption) ?_;simp only[Act.put,lC,lD,lF];refine kD 12 4 (.int .i64 R.2.1) rfl rfl (by kernel_rfl) (by kernel_rfl) (by kernel_rfl) (λ_ _ _ h=>h) (Or.inl ⟨by rfl,λz hz=>by clear hz hH;go_simp⟩) (by assumption) ?_;simp only[Act.put,lC,lD,lF];refine kD 13 5 (.int .i64 R.2.2) rfl rfl (by kernel_rfl) (by kernel_rfl) (by kernel_rfl) (λ_ _ _ h=>h) (Or.inl ⟨by rfl,λz hz=>by clear hz hH;go_simp⟩) (by assumption) ?_;simp only[Act.put,lC,lD,lF];refine wpAnyH_done (by kernel_rfl) ?_ _;go_wp2_with fail
  go_meet
  case rel=>exact⟨rfl,rfl,OV.out,Nw2,Bw2⟩
 case rest =>
  obtain⟨rfl,rfl,oa,nx,bx⟩:=hcut;have SX:w.heap.size<wc.drew.heap.size:=(lI.1 nx).1;have NX:wc.drew.heap[w.heap.size]?=some (.cells (opA o) 26 (0,0)):=nx;have BX:Below w.heap.size w wc.drew:=bx.drew;have OA:Hid (pX wc (w.heap.size+1) u3 R.1):=oa;have HNX:Hid (wc.heap[w.heap.size]?=some (.cells (opA o) 26 (0,0))):=nx;clear oa nx bx SD ND BD HB HSz HN hW0;go_upto_region 2 with fail
  go_cut [6,7,8] (λs6 s7 s8 wx=>s7=.int .i64 R.2.1/\s8=.int .i64 R.2.2/\pX wx (w.heap.size+1) s6 R.1/\pX wx (w.heap.size+1) u3 R.1/\Below w.heap.size w wx)
  case first =>
   have hc1:∀z:World,z.heap[w.heap.size]?=some (.cells (opA o) 26 (0,0))->z.cell? ⟨w.heap.size,1,none⟩=some (.string o.p):=λz hz=>(zC hz).1 1
   have hc2:∀z:World,z.heap[w.heap.size]?=some (.cells (opA o) 26 (0,0))->z.cell? ⟨w.heap.size,2,none⟩=some (.string o.t):=λz hz=>(zC hz).1 2
   have hcr:∀z:World,z.heap[w.heap.size]?=some (.cells (opA o) 26 (0,0))->z.rangeAt w.heap.size 0 (opA o).toList:=λz hz=>yI hz
   refine wp_region_held_drew (S:=λz:World=>z.heap[w.heap.size]?=some (.cells (opA o) 26 (0,0))) (by kernel_rfl) HNX.out (λhHeld=>?_);refine kD 0 23 (.pointer (some ⟨w.heap.size,1,none⟩)) rfl rfl (by kernel_rfl) (by kernel_rfl) (by kernel_rfl) (λ_ _ _ h=>h) (Or.inl ⟨by rfl,λz hz=>by clear hz;try clear hHeld;try clear hc1 hc2 hcr;go_simp⟩) (by assumption) ?_;simp only[Act.put,lC,lD,lF];refine kD 1 24 (.string o.p) rfl rfl (by kernel_rfl) (by kernel_rfl) (by kernel_rfl) (λ_ _ _ h=>h) (Or.inl ⟨by rfl,λz hz=>by have h1:=hc1 z hz;have h2:=hc2 z hz;clear hz;try clear hHeld;try clear hc1 hc2 hcr;go_simp⟩) (by assumption) ?_;simp only[Act.put,lC,lD,lF];refine kD 2 25 (.pointer (some ⟨w.heap.size,2,none⟩)) rfl rfl (by kernel_rfl) (by kernel_rfl) (by kernel_rfl) (λ_ _ _ h=>h) (Or.inl ⟨by rfl,λz hz=>by clear hz;try clear hHeld;try clear hc1 hc2 hcr;go_simp⟩) (by assumption) ?_;simp only[Act.put,lC,lD,lF];refine kD 3 26 (.string o.t) rfl rfl (by kernel_rfl) (by kernel_rfl) (by kernel_rfl) (λ_ _ _ h=>h) (Or.inl ⟨by rfl,λz hz=>by have h1:=hc1 z hz;have h2:=hc2 z hz;clear hz;try clear hHeld;try clear hc1 hc2 hcr;go_simp⟩) (by assumption) ?_;simp only[Act.put,lC,lD,lF];refine kD 4 27 (opV o) rfl rfl (by kernel_rfl) (by kernel_rfl) (by kernel_rfl) (λ_ _ _ h=>h) (yieldsIf_load_mid (by rfl) _ _ rfl _ _ rfl _ _ hcr Tryz.underlying26 rfl (by rw[Tryz.sizeOpL];rfl)) (by assumption) ?_;simp only[Act.put,lC,lD,lF];clear hc1 hc2 hcr hHeld;refine wpAnyH_ready (rs:=[5]) (by kernel_rfl) (by simp) ?_;refine AllReadyH.cons rfl (λK hK=>?_) AllReadyH.nil
   go_simp
   refine(KO.out _).mono ?_;rintro e w1 ⟨rfl,hb⟩;have Nw1:w1.heap[w.heap.size]?=some (.cells (opA o) 26 (0,0)):=(hb.block _ SX).trans NX;have Sw1:w.heap.size<w1.heap.size:=Nat.lt_of_lt_of_le SX hb.size;have Bw1:Below w.heap.size w w1:=BX.trans (hb.mono (Nat.le_of_lt SX));have OA1:Hid (pX w1 (w.heap.size+1) u3 R.1):=qH (qH OA.out (Below.refl _ _).drew) hb;clear hb
   go_simp
   refine hK.out _ _ Nw1 (λhH=>?_);clear hK K hH;refine wpAnyH_ready (rs:=[6]) (by kernel_rfl) (by simp) ?_;refine AllReadyH.cons rfl (λK hK=>?_) AllReadyH.nil
   go_simp
   refine(K2.out w1).mono ?_;rintro e w2 ⟨v,rfl,ov,hb⟩;have Nw2:w2.heap[w.heap.size]?=some (.cells (opA o) 26 (0,0)):=(hb.block _ Sw1).trans Nw1;have Bw2:Below w.heap.size w w2:=Bw1.trans (hb.mono (Nat.le_of_lt Sw1));have OV:Hid (pX w2 (w.heap.size+1) v R.1):=jG ov Sw1;have OA2:Hid (pX w2 (w.heap.size+1) u3 R.1):=qH OA1.out hb;clear hb ov
   go_simp
   refine hK.out _ _ Nw2 (λhH=>?_);clear hK K;refine kD 7 22 (.tuple #[v,.int .i64 R.2.1,.int .i64 R.2.2]) rfl rfl (by kernel_rfl) (by kernel_rfl) (by kernel_rfl) (λ_ _ _ h=>h) (Or.inl ⟨by rfl,λz hz=>by clear hz hH;go_simp⟩) (by assumption) ?_;simp only[Act.put,lC,lD,lF];refine kD 8 30 v rfl rfl (by kernel_rfl) (by kernel_rfl) (by kernel_rfl) (λ_ _ _ h=>h) (Or.inl ⟨by rfl,λz hz=>by clear hz hH;go_simp⟩) (by assumption) ?_;simp only[Act.put,lC,lD,lF];refine kD 9 31 (.int .i64 R.2.1) rfl rfl (by kernel_rfl) (by kernel_rfl) (by kernel_rfl) (λ_ _ _ h=>h) (Or.inl ⟨by rfl,λz hz=>by clear hz hH;go_simp⟩) (by assumption) ?_;simp only[Act.put,lC,lD,lF];refine kD 10 32 (.int .i64 R.2.2) rfl rfl (by kernel_rfl) (by kernel_rfl) (by kernel_rfl) (λ_ _ _ h=>h) (Or.inl ⟨by rfl,λz hz=>by clear hz hH;go_simp⟩) (by assumption) ?_;simp only[Act.put,lC,lD,lF];refine kD 11 6 v rfl rfl (by kernel_rfl) (by kernel_rfl) (by kernel_rfl) (λ_ _ _ h=>h) (Or.inl ⟨by rfl,λz hz=>by clear hz hH;go_simp⟩) (by assumption) ?_;simp only[Act.put,lC,lD,lF];refine kD 12 7 (.int .i64 R.2.1) rfl rfl (by kernel_rfl) (by kernel_rfl) (by kernel_rfl) (λ_ _ _ h=>h) (Or.inl ⟨by rfl,λz hz=>by clear hz hH;go_simp⟩) (by assumption) ?_;simp only[Act.put,lC,lD,lF];refine kD 13 8 (.int .i64 R.2.2) rfl rfl (by kernel_rfl) (by kernel_rfl) (by kernel_rfl) (λ_ _ _ h=>h) (Or.inl ⟨by rfl,λz hz=>by clear hz hH;go_simp⟩) (by assumption) ?_;simp only[Act.put,lC,lD,lF];refine wpAnyH_done (by kernel_rfl) ?_ _;go_wp2_with fail
   go_meet
   case rel=>exact⟨rfl,rfl,OV.out,OA2.out,Bw2⟩
  case rest =>
   rename World=>wd
   obtain⟨rfl,rfl,ob,oa,bx⟩:=hcut;have OA3:Hid (pX wd (w.heap.size+1) u3 R.1):=oa;have BX3:Hid (Below w.heap.size w wd):=bx;have KSS:Hid (Calls Tryz.prog 32 #[u3,u6] wd λe w'=>e=.returned (.bool true)/\Below wd.heap.size wd w'):=KS.out u3 u6 wd (jG oa (Nat.zero_le _)) (jG ob (Nat.zero_le _));clear oa ob bx SX NX BX OA HNX K1 K2 KO KS;go_wp2_with fail
   refine KSS.out.mono ?_;rintro e w3 ⟨rfl,zTL⟩;have hB3:Below w.heap.size w w3:=BX3.out.trans (zTL.mono BX3.out.size);have Q3:Hid (pX w3 (w.heap.size+1) u3 R.1):=qH OA3.out zTL;clear zTL KSS OA3 BX3;have e1:(R.2.1==R.2.1)=true:=by simp
   have e2:(R.2.2==R.2.2)=true:=by simp
   rcases zBN Q3.out zSX.out with ⟨e0,ao,zNk,rfl⟩ | ⟨dI,g,cap,rfl,hca,hg,_⟩
   ·go_wp2_with fail
    refine wp_loop_rounds 1 ?_;rw[rounds_succ];go_wp2_with fail
    go_ret;exact⟨jC (by simp),hB3⟩
   ·go_wp2_with fail
    go_loopw [10] (λi wr=>∃(k:Nat) (xs:List Value),k<=R.1.length/\i=.int .i64 k/\wr.ownsRow (w.heap.size+1) 57 22 (.slice (some ⟨g,0,none⟩) R.1.length cap) R.1.length xs/\Below w.heap.size w wr) (λi _=>R.1.length-(intOf i).toNat)
    case atStart=>exact⟨0,_,Nat.zero_le _,rfl,Q3.out,hB3⟩
    case round =>
     obtain⟨k,xs,hk,rfl,jS,hbr⟩:=hrel;by_cases zTI:k<R.1.length
     ·have hth:=zMV jS k zTI;obtain⟨ZA,hZA⟩:∃ZA,ZA=fdA Mt.vJ:=⟨_,rfl⟩
      have HO:Hid _:=tJ ZA.toList (k*22) wr xs jS;have hgl:=World.ownsRow.lt jS g rfl;have HBB:Hid (Below w.heap.size w (wr.setCells g (k*22) ZA.toList)):=hbr.trans ((below_setCells g ZA.toList (k*22) wr w.heap.size (by omega)).1);have HTH:Hid (wr.there g (k*22) ZA.size):=by show World.there _ _ _ _;rw[hZA,kE Mt.vJ rfl];exact hth
      have HZB:Hid (Tryz.prog.built 57 []=some ZA):=by show _=_;rw[hZA];kernel_rfl
      have HZS:Hid ((Tryz.prog.info? 57).map (·.size)=some ZA.size):=by show _=_;rw[Tryz.size57,hZA,kE Mt.vJ rfl]
      have HZ1:Hid (ZA.all (·.oneCell')=true):=by show _=_;rw[hZA];exact bD _
      have i0:(0:Int)<=(k:Int):=by omega
      have i1:(k:Int)<(R.1.length:Int):=by omega
      clear jS hbr hth hZA;go_upto_region 7 with fail
      refine wp_region_lit ?_;refine wpList_plain (by rfl) (λK hK=>?_)
      go_simp
      refine hK _ _ ?_;clear hK K;refine wpList_plain (by rfl) (λK hK=>?_)
      go_simp
      refine hK _ _ ?_;clear hK K;refine wpList_buildTo (by rfl) 57 #[] (by rfl) (some 44) rfl ZA (by first|(simp only[List.map_toArray,List.map_nil];exact HZB.out) | simpa using HZB.out) ?_;simp only[Act.put,lC,lD,lF];go_upto_region 6 with (refine wpList_store_mid (by rfl) 57 (.tmp 45) (.tmp 44) (by rfl) g (k*22) ZA (by rfl) (by rfl) HTH.out HZS.out HZ1.out ?_)
      generalize wr.setCells g (k*22) ZA.toList=w5 at *;go_wp2_with fail
      go_roundw
      case rel=>exact⟨k+1,_,by omega,by go_num,HO.out,HBB.out⟩
      case measure=>simp[intOf];omega
     ·go_wp2_with fail
      go_ret;exact⟨jC (by simp),hbr⟩
theorem zEx(c:List Mt.zTG)(hcl:∀k,(c.take k).countP Mt.vK=(c.take k).countP Mt.vX+Mt.jI c k)(hl:c.length<=300)(dI:0<c.length)(v:Value)(w:World)(h:zF w 0 v c) :
  Calls Tryz.prog 21 #[v] w λe w'=>e=.returned (.int .i64 (Mt.zHT c:Nat))/\Below w.heap.size w w':=by
 obtain⟨g,cap,rfl,_,hg⟩:=World.ownsRow.form h dI;have HL:Hid (Calls Tryz.prog 42 #[.slice (some ⟨g,0,none⟩) c.length cap] w _):=zHn c hcl hl g cap w h;clear h;go_enter Tryz.func21,Tryz.ntmps21
 go_wp2_with fail
 refine HL.out.mono ?_;rintro e w1 ⟨rfl,jS,zTH⟩;have HO:Hid (qK w1 w.heap.size (.slice (some ⟨w.heap.size,0,none⟩) c.length c.length) (dH c)):=jS;have HB1:Hid (Below w.heap.size w w1):=zTH;clear jS zTH HL;go_wp2_with fail
 go_loopw [3,9] (λwt i wr=>∃k:Nat,k<=c.length/\i=.int .i64 k/\wt=.int .i64 (Mt.dG c k:Nat)/\wr=w1) (λ_ i _=>c.length-(intOf i).toNat)
 case atStart=>exact⟨0,Nat.zero_le _,rfl,rfl,rfl⟩
 case round =>
  obtain⟨k,hk,rfl,rfl,rfl⟩:=hrel;by_cases zTI:k<c.length
  ·obtain⟨x1,x2⟩:=HO.out.at k (by rw[xI];exact zTI) (by rw[xI]);rw[zBx c k zTI]at x1;have HW:Hid (Mt.dG c (k+1)=Mt.dG c k+1+Mt.jI c k):=Mt.wV c k;have bl:=Mt.nM c k;have bw:=Mt.zBm c k;have bw2:k*(c.length+1)<=300*301:=Nat.mul_le_mul (by omega) (by omega);have hk':(k:Int)<(c.length:Int):=by omega
   generalize hLk:Mt.jI c k=lk at *;generalize hWk:Mt.dG c k=wk at *;go_wp2_with fail
   go_roundw
   case rel=>exact⟨k+1,by omega,by go_num,by rw[HW.out];go_num,by trivial⟩
   case measure=>simp[intOf];omega
  ·have hk2:k=c.length:=by omega
   subst hk2;go_wp2_with fail
   go_ret;exact⟨rfl,HB1.out⟩
theorem zIL(p:ByteArray)(h:(Mt.kC p).2=0)(k:Nat):((Mt.kC p).1.take k).countP Mt.vK=((Mt.kC p).1.take k).countP Mt.vX+Mt.jI (Mt.kC p).1 k:=by
 have h0:(Mt.jN p).1=0:=by
  unfold Mt.kC at h;split at h
  ·rename_i x;exact absurd h x
  ·rename_i x;simpa using x
 obtain⟨f,_,_,_,_,_,hc,_⟩:=Mt.mM p h0;exact Mt.zCg f.re _ hc k
theorem zKI(p:ByteArray)(w:World)(hm:p.size<=maxLen):Calls Tryz.prog 10 #[.string p] w λe w'=>e=.returned (.tuple #[.int .i64 (Mt.cB p).1,.int .i64 (Mt.cB p).2])/\Below w.heap.size w w':=by
 have HC:Hid (Calls Tryz.prog 18 #[.string p] w λe w'=>∃v,e=.returned (.tuple #[v,.int .i64 (Mt.kC p).2])/\zF w' w.heap.size v (Mt.kC p).1/\Below w.heap.size w w'):=zC9 p w hm;have hl:=(Mt.bN p).2;unfold Mt.cB;cases he:((Mt.kC p).2 != 0)
 ·have h0:(Mt.kC p).2=0:=by simpa using he
  rw[if_neg (by simpa using he)]
  have dI:0<(Mt.kC p).1.length:=by
   have hc0:(Mt.jN p).1=0:=by
    unfold Mt.kC at h0;split at h0
    ·rename_i x;exact absurd h0 x
    ·rename_i x;simpa using x
   obtain⟨A,hK⟩:=Mt.dW p hc0;exact hK.pos
  have HW:Hid (∀(v:Value) (z:World),zF z 0 v (Mt.kC p).1->Calls Tryz.prog 21 #[v] z λe w'=>e=.returned (.int .i64 (Mt.zHT (Mt.kC p).1:Nat))/\Below z.heap.size z w'):=λv z hz=>zEx _ (zIL p h0) hl dI v z hz
  clear h0 dI;generalize Mt.kC p=K at *;go_enter Tryz.func10,Tryz.ntmps10
  go_wp2_with fail
  refine HC.out.mono ?_;rintro e w1 ⟨v,rfl,ho,hb⟩;have HO:Hid (zF w1 0 v K.1):=ho.base (Nat.zero_le _);have HB:Hid (Below w.heap.size w w1):=hb;clear ho hb HC;go_wp2_with fail
  refine(HW.out v w1 HO.out).mono ?_;rintro e w2 ⟨rfl,zTK⟩;have HB2:Hid (Below w.heap.size w w2):=HB.out.trans (zTK.mono HB.out.size);clear zTK;go_wp2_with fail
  go_ret2
  exact⟨rfl,HB2.out⟩
 ·rw[if_pos (by simpa using he)];generalize Mt.kC p=K at *;go_enter Tryz.func10,Tryz.ntmps10
  go_wp2_with fail
  refine HC.out.mono ?_;rintro e w1 ⟨v,rfl,ho,hb⟩;have HB:Hid (Below w.heap.size w w1):=hb;clear ho hb HC;go_wp2_with fail
  go_ret2
  exact⟨rfl,HB.out⟩
theorem zKJ(p:ByteArray)(zB zI:Int)(w:World)(hm:p.size<=maxLen):Calls Tryz.prog 23 #[.string p,.int .i64 zB,.int .i64 zI] w λe w'=>∃v,e=.returned (.tuple #[v,.int .i64 (Mt.xL p zB zI).2])/\qK w' w.heap.size v (Mt.xL p zB zI).1/\Below w.heap.size w w':=by
 have HC:Hid (Calls Tryz.prog 18 #[.string p] w λe w'=>∃v,e=.returned (.tuple #[v,.int .i64 (Mt.kC p).2])/\zF w' w.heap.size v (Mt.kC p).1/\Below w.heap.size w w'):=zC9 p w hm;have hl:=(Mt.bN p).2;cases he:((Mt.kC p).2 != 0)
 ·have h0:(Mt.kC p).2=0:=by simpa using he
  obtain⟨A,hK⟩:=Mt.dW p (fT p h0);have hN:=Mt.zCM p (fT p h0);have HIC:Hid (∀z:World,Calls Tryz.prog 43 #[.int .i64 zB,.int .i64 zI] z λe w'=>e=.returned (.bool (Mt.kF zB zI))/\z=w'):=λz=>zCN zB zI z
  cases hms:Mt.kF zB zI
  ·have HR:Hid (Mt.xL p zB zI=([],13)):=by show _=_;unfold Mt.xL;rw[if_neg (by omega),if_pos hms]
   rw[HR.out];rw[hms]at HIC;clear h0 hK hN;generalize Mt.kC p=K at *;go_enter Tryz.func23,Tryz.ntmps23
   go_wp2_with fail
   refine HC.out.mono ?_;rintro e w1 ⟨v,rfl,ho,hb⟩;have HB:Hid (Below w.heap.size w w1):=hb;clear ho hb HC;go_wp2_with fail
   refine(HIC.out w1).mono ?_;rintro e w2 ⟨rfl,rfl⟩;go_wp2_with fail
   go_ret2
   exact⟨.slice none 0 0,rfl,World.ownsRow_nil _ _ _ _,HB.out⟩
  ·have zMS:0<=zB/\zB<=4/\0<=zI/\zI<=4294967295:=by unfold Mt.kF at hms;simpa using hms
   have HR:Hid (Mt.xL p zB zI=(Mt.kY (Mt.jD (Mt.kC p).1 zB zI) (Mt.kC p).1.length,0)):=by show _=_;unfold Mt.xL;rw[if_neg (by omega),if_neg (by rw[hms];decide)]
   rw[HR.out];rw[hms]at HIC
   have HCC:Hid (∀(g cap:Nat) (z:World),zF z 0 (.slice (some ⟨g,0,none⟩) (Mt.kC p).1.length cap) (Mt.kC p).1->Calls Tryz.prog 44 #[.slice (some ⟨g,0,none⟩) (Mt.kC p).1.length cap,.int .i64 zB,.int .i64 zI] z λe w'=>∃q n cp,e=.returned (.slice (some ⟨q,0,none⟩) n cp)/\n=(Mt.kY (Mt.jD (Mt.kC p).1 zB zI) (Mt.kC p).1.length).length/\qK w' z.heap.size (.slice (some ⟨q,0,none⟩) n cp) (Mt.kY (Mt.jD (Mt.kC p).1 zB zI) (Mt.kC p).1.length)/\Below z.heap.size z w') :=
    λg cap z hz=>zBk _ hK.ok hN zB zI ⟨zMS.1,zMS.2.1⟩ zMS.2.2.1 zMS.2.2.2 hl g cap z hz
   have dI:=hK.pos;clear h0 hK hN zMS;generalize Mt.kC p=K at *;go_enter Tryz.func23,Tryz.ntmps23
   go_wp2_with fail
   refine HC.out.mono ?_;rintro e w1 ⟨v,rfl,ho,hb⟩;obtain⟨g,cap,rfl,_,_⟩:=World.ownsRow.form ho dI;have HO:Hid (zF w1 0 (.slice (some ⟨g,0,none⟩) K.1.length cap) K.1):=ho.base (Nat.zero_le _);have HB:Hid (Below w.heap.size w w1):=hb;clear ho hb HC;go_wp2_with fail
   refine(HIC.out w1).mono ?_;rintro e w2 ⟨rfl,rfl⟩;go_wp2_with fail
   refine(HCC.out g cap w1 HO.out).mono ?_;rintro e w3 ⟨q,n,cp,rfl,hn,hr,zTL⟩;have HF:Hid (qK w3 w.heap.size (.slice (some ⟨q,0,none⟩) n cp) (Mt.kY (Mt.jD K.1 zB zI) K.1.length)/\Below w.heap.size w w3):=⟨jG hr HB.out.size,HB.out.trans (zTL.mono HB.out.size)⟩
   clear hr zTL hn;go_wp2_with fail
   go_ret2
   exact⟨_,rfl,HF.out.1,HF.out.2⟩
 ·have HR:Hid (Mt.xL p zB zI=([],(Mt.kC p).2)):=by show _=_;unfold Mt.xL;rw[if_pos (by simpa using he)]
  rw[HR.out];generalize Mt.kC p=K at *;go_enter Tryz.func23,Tryz.ntmps23
  go_wp2_with fail
  refine HC.out.mono ?_;rintro e w1 ⟨v,rfl,ho,hb⟩;have HB:Hid (Below w.heap.size w w1):=hb;clear ho hb HC;go_wp2_with fail
  go_ret2
  exact⟨.slice none 0 0,rfl,World.ownsRow_nil _ _ _ _,HB.out⟩
theorem zKK(KP:zEi)(o:Stp)(w:World)(hp:o.p.size<=maxLen)(ht:o.t.size<=maxLen)(k1:(o.kind==1)=false)(k2:(o.kind==2)=false)(k3:(o.kind==3)=false)(k4:(o.kind==4)=false)(k5:(o.kind==5)=false)(k6:(o.kind==6)=true) :
  Calls Tryz.prog 6 #[opV o] w λe w'=>e=.returned (.bool true)/\Below w.heap.size w w':=by
 have K1:Hid (∀z:World,Calls Tryz.prog 14 #[opV o] z λe w'=>e=.returned (.bool true)/\Below z.heap.size z w'):=λz=>zIK KP o z hp ht
 unfold opV opA at *;go_enter Tryz.func6,Tryz.ntmps6
 go_wp2_with fail
 refine(K1.out _).mono ?_;rintro e w1 ⟨rfl,zTH⟩;have hB1:Below w.heap.size w w1:=((Below.refl _ _).alloc (lG _) _).trans (zTH.mono (by simp));clear zTH;go_wp2_with fail
 go_ret;exact⟨rfl,hB1⟩
theorem zMW(o:Stp)(z:World)(hp:o.p.size<=maxLen)(ht:o.t.size<=maxLen)(h1:1<=o.kind)(h6:o.kind<=6) :
  Calls Tryz.prog 6 #[opV o] z λe w'=>e=.returned (.bool true)/\Below z.heap.size z w':=by
 have h:o.kind=1\/o.kind=2\/o.kind=3\/o.kind=4\/o.kind=5\/o.kind=6:=by omega
 rcases h with e | e | e | e | e | e
 ·exact zHR (λp z hp=>zMi p z hp) o z hp (by rw[e];rfl)
 ·exact zJR (λp z hp=>zC9 p z hp) o z hp (by rw[e];rfl) (by rw[e];rfl)
 ·exact zGB (λp z hp=>zKI p z hp) o z hp (by rw[e];rfl) (by rw[e];rfl) (by rw[e];rfl)
 ·exact zGC (λp zB zI z hp=>zKJ p zB zI z hp) o z hp (by rw[e];rfl) (by rw[e];rfl) (by rw[e];rfl) (by rw[e];rfl)
 ·exact zJ2 (λp t zTE zB zI zD zA z hp ht=>zOB p t zTE zB zI zD zA z hp ht) o z hp ht (by rw[e];rfl) (by rw[e];rfl) (by rw[e];rfl) (by rw[e];rfl) (by rw[e];rfl)
 ·exact zKK zKH o z hp ht (by rw[e];rfl) (by rw[e];rfl) (by rw[e];rfl) (by rw[e];rfl) (by rw[e];rfl) (by rw[e];rfl)
open Go.ChangeShapes Go.WideShapes Go.ChangeAt Go.RowKit
theorem zOC(l:List Stp)(v:Value)(w:World)(h:Script w v l)(hn:l.length<=maxLen)(hs:∀o∈l,o.p.size<=maxLen/\o.t.size<=maxLen) :
  Calls Tryz.prog 4 #[v] w λe w'=>e=.returned (.bool true)/\Below w.heap.size w w':=by
 have HC:Hid (Calls Tryz.prog 5 #[v,.int .i64 1,.int .i64 6] w _):=zLe 1 6 l v w h (by unfold maxLen at hn;omega) (λo ho k1 k2 z=>zMW o z (hs o ho).1 (hs o ho).2 (by omega) (by omega));go_enter Tryz.func4,Tryz.ntmps4
 go_wp2_with fail
 refine HC.out.mono ?_;rintro e w1 ⟨rfl,b1⟩;have HB:Hid (Below w.heap.size w w1):=b1;clear b1;go_wp2_with fail
 go_ret;exact⟨rfl,HB.out⟩
theorem zHC(H:Type)(enc:TypeId × Value->H)(W:World)(base:Nat)(args:Array Value)(ds gs:List (DataW H))(before:List MemPlace)
  (hval:∀(j:Nat) t v,Tryz.f4.params[j]?=some t->args[j]?=some v->Value.okWide Tryz.prog W .any base t v)
  (hW:DataW.Whole enc Tryz.prog Tryz.f4.params.toList Rows.allSpec.vars false W args.toList ds gs before) :
  Calls Tryz.prog 4 args W λe W'=>∃v,e=.returned v/\Rows.allSpec.post enc Tryz.prog Tryz.f4 false true false false W args v W':=by
 have hW':=hW;have zTI:=hW.lt;obtain⟨p,q,hA0,hV,rfl,hfz,hnd⟩:=hW;have hA:DataW.TrodAll enc Tryz.prog W 0 (λ_=>true) true Tryz.f4.params.toList args.toList ds p:=hA0;rw[Tryz.params4]at hA hval;obtain⟨v0,d0,rfl,rfl,h0⟩:=trodAll_one hA;obtain⟨rfl,rfl⟩:=trodVars_none hV;obtain⟨a0,len,cap,rfl⟩:=okWide_slice Tryz.underlying22 (hval 0 22 v0 rfl rfl);have h0':=h0;obtain⟨fuel,hf⟩:=h0;obtain⟨l,hS,hn,hs⟩:=zHS hf;clear hA0;simp only[List.append_nil]at hW' zTI;refine(zOC l _ W hS hn hs).mono λe W' ⟨he,hb⟩=>?_
 subst he;refine⟨_,rfl,zJM (pa:=p) (pv:=[]) hW' (λ_ _ _=>trodAll_cons_mk (shut_bool Tryz.underlying4 _) trodAll_mk0) (λsp hsp=>?_) (λ_ _=>rfl) (by simp) hb (ok_one (by kernel_rfl) rfl (okWide_bool_mk Tryz.underlying4 _))⟩;have:=WideElems.Trod_stays (W':=W') (sp':=sp) Tryz.laid Tryz.recOps Tryz.rowOps h0' (λx hx=>hb.same (zTI x hx)) hsp;exact⟨p,[],this,rfl,by simp⟩
theorem zKL(os:Os)(started:os.Started)(H:Type)(enc:TypeId × Value->H) :
  ReturnsInHanded {} Tryz.checked os 4 .any (Rows.allSpec.pre6 enc Tryz.prog Tryz.f4 Rows.allRow.domain false) (Rows.allSpec.post enc Tryz.prog Tryz.f4 false true false false):=by
 refine returnsInHanded_of_change (C:=Tryz.checked) Tryz.ownK started (by kernel_rfl) Tryz.func4
  (ChangeSpec.witness6 (enc:=enc) (C:=Tryz.checked) false ⟨#[],#[.slice none 0 0],[]⟩ 8 (by kernel_rfl) (by kernel_rfl) (by kernel_rfl) (by kernel_rfl)) ?_
 intro W base args ds gs before hval hW _ _;exact zHC H enc W base args ds gs before hval hW
theorem all_holds:Rows.AllSaid :=
 OpenClaim.holds_of_wide 4 Tryz.f4 rfl rfl rfl rfl rfl rfl rfl ⟨rfl,rfl,rfl,rfl,rfl⟩ rfl rfl rfl rfl rfl (by kernel_rfl) Tryz.func4 (by kernel_rfl)
  (of_decide_eq_true (by kernel_rfl)) (by unfold Func.isWrapper;first|(rw[if_pos (by decide +kernel)];kernel_rfl)|(rw[if_neg (by decide +kernel)];exact⟨rfl,rfl⟩))
  (λos started H enc _=>zKL os started H enc)
