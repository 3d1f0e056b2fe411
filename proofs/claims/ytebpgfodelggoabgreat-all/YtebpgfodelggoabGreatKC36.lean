import Derived.Test.YtebpgfodelggoabGreatKC34
import Derived.Test.YtebpgfodelggoabGreatKC35
import Derived.Deep.LoopGhost
set_option linter.unusedVariables false
set_option linter.unusedSimpArgs false
set_option maxRecDepth 100000
set_option maxHeartbeats 8000000
namespace Go.Proofs.YtebpgfodelggoabGreat
open Go.RowKit
section
variable {k:Pk} {w:World} {steps:Int} {hd:List Bool} {zD:Int} {wo:Option Addr} {wc:Nat} {W:List (List Int)}
theorem zV.drewN(h:zV k w steps hd zD wo wc W)(n:Nat):zV k (w.drewN n) steps hd zD wo wc W:=h.same rfl rfl rfl rfl rfl (λ_ _=>rfl)
theorem zFT(h:zV k w steps hd zD wo wc W)(q:List Int)(hq:q.length=43)(x:Mt.zTG)(X:Nat)(n1:(x.op==1)=false)(ho:(x.op==8)=true)(hX:x.x=X)(hX9:X<10)(b:Int)(hbb:-100<=b/\b<=100)(ha:Mt.gt q (2+2*X)=-1)(hb:Mt.gt q (2+(2*X+1))=b) :
  Calls Tryz.prog 141 #[.pointer (some ⟨k.g,0,none⟩),.agg (zTS q),.agg (yR x)] w λe w'=>e=.returned (.tuple #[])/\Waits k wo w steps hd zD W w':=by
 obtain⟨W1,hW1,B1,T1,U1,Z1⟩:=wN w q x;have HP0:Hid (zV k w steps hd zD wo wc W):=h;have xa:W1.cell? ⟨w.heap.size,2+2*X,none⟩=some (.int .i64 (-1)):=by rw[(zC T1).1 _,<-ha];exact yN q _ (by omega)
 have xb:W1.cell? ⟨w.heap.size,2+(2*X+1),none⟩=some (.int .i64 b):=by rw[(zC T1).1 _,<-hb];exact yN q _ (by omega)
 have i0:W1.cell? ⟨w.heap.size+1,0,none⟩=some (.int .i64 x.op):=(zC U1).1 0;have i1:W1.cell? ⟨w.heap.size+1,1,none⟩=some (.int .i64 (X:Nat)):=by rw[<-hX];exact(zC U1).1 1
 have HB1:Hid (Below w.heap.size w W1):=B1;have hne:((-1:Int) != -1)=false:=by decide
 have h20:(2*(X:Int)+1)<20:=by omega
 clear h B1 U1 T1 ha hb hX;generalize hgg:k.g=g at *;go_enter Tryz.func141,Tryz.ntmps141
 go_upto_region 1 with fail
 rw[<-hW1];clear hW1;generalize hnn:w.heap.size=n at *;go_wp2_with fail
 go_quiet (fail)
 go_wp2_with fail
 go_quiet (fail)
 go_wp2_with fail
 go_returns;refine⟨rfl,?_⟩;exact bG HP0.out (by rw[hnn];exact below_drewN (below_drewN HB1.out _) _)
theorem zE0{P:Program}{f:FuncId}{args:Array Value}{X:World}{a b:Nat}{v:Value}(h:Calls P f args (X.drewN (a+b)) λe w'=>e=.returned v/\∃m,w'=(X.drewN (a+b)).drewN m) :
  Calls P f args (X.drewN (a+b)) λe w''=>e=.returned v/\∃n,w''=X.drewN (a+n):=h.mono λ_ _ hh=>⟨hh.1,by obtain⟨m,e⟩:=hh.2;exact⟨b+m,by rw[e,World.drewN_drewN,Nat.add_assoc]⟩⟩
theorem zFU(h:zV k w steps hd zD wo wc W)(q:List Int)(hq:q.length=43)(pc pos:Nat)(hp0:Mt.gt q 0=pc)(hp1:Mt.gt q 1=pos)(hpc:pc<=300)(dI:pos<=k.t.size)(ht:k.t.size<=60)(hn:W.length<=100000)(x:Mt.zTG)(X:Nat)(n1:(x.op==1)=false)(ho:(x.op==8)=true)(hX:x.x=X)(hX9:X<10)(a b:Nat)(ha:Mt.gt q (2+2*X)=a)(hb:Mt.gt q (2+(2*X+1))=b)(hab:a<=b)(hbt:b<=k.t.size) :
  Calls Tryz.prog 141 #[.pointer (some ⟨k.g,0,none⟩),.agg (zTS q),.agg (yR x)] w λe w'=>e=.returned (.tuple #[])/\Waits k wo w steps hd zD (zA8 W (Mt.vC k.t q x).2 (Mt.vC k.t q x).1) w':=by
 obtain⟨HE1,HE2⟩:=Mt.zPQ k.t q x pc pos a b X (by simpa using ho) hX hp0 hp1 ha hb hab hbt dI;obtain⟨W1,hW1,B1,T1,U1,Z1⟩:=wN w q x;have HP0:Hid (zV k w steps hd zD wo wc W):=h;have HP1:zV k W1 steps hd zD wo wc W:=h.below B1;obtain⟨L,hL⟩:∃L:Nat,L=b-a:=⟨_,rfl⟩
 rw[<-hL]at HE1 HE2
 have HAG:Hid (∀N,Calls Tryz.prog 151 #[.pointer (some ⟨k.g,0,none⟩),.int .i64 (pos:Nat),.int .i64 (a:Nat),.int .i64 ((b:Int)-a)] (W1.drewN N) λe w'=>e=.returned (.bool (Mt.vC k.t q x).2)/\∃m,w'=(W1.drewN N).drewN m):=λN=>by
  have:=zFS (HP1.drewN N) pos a L ht dI (by omega);rw[show((b:Int)-a)=(L:Int) by omega,HE1];exact this
 have x0:W1.cell? ⟨w.heap.size,0,none⟩=some (.int .i64 pc):=by rw[(zC T1).1 _,<-hp0];exact yN q _ (by omega)
 have x1:W1.cell? ⟨w.heap.size,1,none⟩=some (.int .i64 pos):=by rw[(zC T1).1 _,<-hp1];exact yN q _ (by omega)
 have f1:W1.frozen? ⟨w.heap.size,1,none⟩=false:=(zC T1).2 1;have xa:W1.cell? ⟨w.heap.size,2+2*X,none⟩=some (.int .i64 a):=by rw[(zC T1).1 _,<-ha];exact yN q _ (by omega)
 have xb:W1.cell? ⟨w.heap.size,2+(2*X+1),none⟩=some (.int .i64 b):=by rw[(zC T1).1 _,<-hb];exact yN q _ (by omega)
 have i0:W1.cell? ⟨w.heap.size+1,0,none⟩=some (.int .i64 x.op):=(zC U1).1 0;have i1:W1.cell? ⟨w.heap.size+1,1,none⟩=some (.int .i64 (X:Nat)):=by rw[<-hX];exact(zC U1).1 1
 have HB1:Hid (Below w.heap.size w W1):=B1;have hne:((a:Int) != -1)=true:=by rw[bne_iff_ne];omega
 have h20:(2*(X:Int)+1)<20:=by omega
 have HT3:Hid (∀N,((W1.drewN N).setCell ⟨w.heap.size,1,none⟩ (.int .i64 ((pos:Int)+((b:Int)-a)))).heap[w.heap.size]?=some (.cells (zTS (q.set 1 ((pos:Int)+((b:Int)-a)))) 130 (0,0))):=λN=>by
  rw[<-nV q hq];exact Go.heap_setCell_same (W1.drewN N) w.heap.size 1 _ _ _ T1
 have HB3:Hid (∀N,Below w.heap.size w ((W1.drewN N).setCell ⟨w.heap.size,1,none⟩ (.int .i64 ((pos:Int)+((b:Int)-a))))):=λN=>(below_drewN B1 N).setCell (p:=⟨w.heap.size,1,none⟩) (lG _) _
 have HWT:Hid (∀N,Calls Tryz.prog 113 #[.pointer (some ⟨k.g,0,none⟩),.agg (zTS (q.set 1 ((pos:Int)+((b:Int)-a)))),.int .i64 ((pc:Int)+1)] ((W1.drewN N).setCell ⟨w.heap.size,1,none⟩ (.int .i64 ((pos:Int)+((b:Int)-a)))) λe w'=>e=.returned (.tuple #[])/\∃wo' wc',zV k w' steps hd zD wo' wc' (W++[(q.set 1 ((pos:Int)+((b:Int)-a))).set 0 ((pc:Int)+1)])/\jV k wo wo' ((W1.drewN N).setCell ⟨w.heap.size,1,none⟩ (.int .i64 ((pos:Int)+((b:Int)-a)))) w') :=
  λN=>mP (q.set 1 ((pos:Int)+((b:Int)-a))) ((pc:Int)+1) (by simp[hq]) (HP0.out.below (HB3.out N)) (by omega)
 have HLE:Hid ((b:Int)-a=(L:Int)):=by show _=_;omega
 have zSG:Hid ((Mt.vC k.t q x).2=true->(Mt.vC k.t q x).1=(q.set 1 ((pos:Int)+((b:Int)-a))).set 0 ((pc:Int)+1)):=by rw[HLE.out];exact HE2
 have ht2:(b:Int)<=60:=by omega
 clear h B1 U1 T1 ha hb hX HE1 HE2 HP1 hL HLE;generalize (Mt.vC k.t q x).1=q2 at *;generalize hr:(Mt.vC k.t q x).2=r at *;generalize hgg:k.g=g at *;go_enter Tryz.func141,Tryz.ntmps141
 go_upto_region 1 with fail
 rw[<-hW1];clear hW1;generalize hnn:w.heap.size=n at *;cases r
 ·go_wp2_with fail
  go_quiet (fail)
  go_wp2_with fail
  go_quiet ((go_at_call 151;exact zE0 (HAG.out _)))
  go_wp2_with fail
  go_returns;refine⟨rfl,?_⟩;rw[nK];exact bG HP0.out (by rw[hnn];exact below_drewN (below_drewN HB1.out _) _)
 ·have e2:=zSG.out rfl;subst e2;go_wp2_with fail
  go_quiet (fail)
  go_wp2_with fail
  go_quiet ((go_at_call 151;exact zE0 (HAG.out _)))
  go_wp2_with (refine kQ 130 43 Tryz.underlying130 rfl Tryz.sizeSt (by rfl) (.tmp 4) (by rfl) n (by rfl) (HT3.out _) (kK _) ?_)
  refine(HWT.out _).mono ?_;rintro e w4 ⟨rfl,wo',wc',hP,hS⟩;have HF:Hid (Waits k wo w steps hd zD (W++[(q.set 1 ((pos:Int)+((b:Int)-a))).set 0 ((pc:Int)+1)]) w4):=⟨wo',wc',hP,(jV.below (by rw[hnn];exact HB3.out _)).trans hS⟩
  clear hP hS;go_wp2_with fail
  go_returns;exact⟨rfl,by rw[pY];exact HF.out⟩
end
structure zF9 (k:Pk) (A:Int->Mt.Att) (s q:List Int):Prop where
 good:Mt.Good k.c.length k.t.size s
 sim:Mt.Sim A s q
 neg:Mt.zHd s
def zMv(k:Pk)(wo:Option Addr)(w w':World)(bound:Nat):Prop:=∃hd' zX wo' wc' W',zV k w' (k.zA+1) hd' zX wo' wc' W'/\jV k wo wo' w w'/\W'.length<=bound
def Left(k:Pk)(E:Mt.Env)(wo:Option Addr)(w w':World)(r:Mt.Res)(W:List (List Int)):Prop:=∃hd' wo' wc',zV k w' (k.zA-r.n) hd' r.zD wo' wc' W/\jV k wo wo' w w'/\Mt.Tab E hd' r.kn
def zCo(k:Pk)(E:Mt.Env)(A:Int->Mt.Att)(r:Mt.Res)(bound:Nat)(wo:Option Addr)(w:World)(W:List (List Int))(q':List Int)(b:Bool)(w':World):Prop :=
 q'.length=43/\((r.qI=true/\zMv k wo w w' bound)\/(r.qI=false/\b=r.ok/\(r.ok=true->Mt.Sim A r.st q')/\Left k E wo w w' r W))
def zQR(k:Pk)(E:Mt.Env)(A:Int->Mt.Att)(m:Nat):Prop:=∀(w:World) (hd kn:List Bool) (zD:Int) (wo:Option Addr) (wc:Nat) (W:List (List Int)) (s q:List Int),
 zV k w (k.zA+1-m) hd zD wo wc W->Mt.Tab E hd kn->kn.length=E.c.length*(E.t.size+1)*12->0<=zD/\zD<=5000->zF9 k A s q->W.length+3*m+1<=50000->(m:Int)<=k.zA+1 ->
 Calls Tryz.prog 78 #[.pointer (some ⟨k.g,0,none⟩),.agg (zTS q)] w λe w'=>∃q' b,e=.returned (.tuple #[.agg (zTS q'),.bool b])/\zCo k E A (Mt.qO E (m-1) s kn zD) (W.length+3*m+1) wo w W q' b w'
def zD5(q e:List Int)(i j:Nat):List Int:=(List.range 43).map λt=>if i<=t/\t<j then Mt.gt e t else Mt.gt q t
theorem zD6(q e:List Int)(i j t:Nat)(h:t<43):Mt.gt (zD5 q e i j) t=if i<=t/\t<j then Mt.gt e t else Mt.gt q t:=by
 unfold Mt.gt zD5;rw[lH,List.getElem?_map,List.getElem?_range h];rfl
theorem zMw{q e:List Int}(h:∀t,t<43->Mt.gt q t=Mt.gt e t):zTS q=zTS e:=by
 unfold zTS stC;congr 1;apply List.map_congr_left;intro t ht;rw[h t (List.mem_range.1 ht)]
theorem zOo(q e:List Int)(hq:q.length=43)(he:e.length=43):zTS (zD5 (zD5 q e 2 22) e 22 32)=zTS (Mt.zA2 q e):=by
 refine zMw λt ht=>?_
 rw[zD6 _ _ _ _ _ ht,zD6 _ _ _ _ _ ht,Mt.zD1 q e hq he];by_cases h1:2<=t/\t<22
 ·rw[if_neg (by omega),if_pos h1,if_pos (by omega)]
 ·by_cases h2:22<=t/\t<32
  ·rw[if_pos h2,if_pos (by omega)]
  ·rw[if_neg h2,if_neg h1,if_neg (by omega)]
theorem zD7{w:World}{b:Nat}{q e:List Int}(hb:w.heap[b]?=some (.cells (zTS q) 130 (0,0)))(i n:Nat)(hn:i+n<=43) :
  (w.setCells b i (((stC e).drop i).take n)).heap[b]?=some (.cells (zTS (zD5 q e i (i+n))) 130 (0,0)):=by
 obtain⟨D,h1,h2⟩:=zAF b 130 (((stC e).drop i).take n) i w _ hb;rw[h1];have hl:(((stC e).drop i).take n).length=n:=by rw[List.length_take,List.length_drop,zAk];omega
 have hcb:=zC hb;have hD:=zC h1;have hsz:D.size=43:=by rw[h2,kK]
 have:D=zTS (zD5 q e i (i+n)):=by
  apply Array.ext (by rw[hsz,kK]);intro t ht1 ht2;have ht:t<43:=by omega
  have a1:=hD.1 t;rw[Array.getElem?_eq_getElem ht1]at a1;have a2:=yN (zD5 q e i (i+n)) t ht;rw[Array.getElem?_eq_getElem ht2,zD6 _ _ _ _ _ ht]at a2;by_cases hin:i<=t/\t<i+n
  ·rw[if_pos hin]at a2;have:=World.cell?_setCells_in b (((stC e).drop i).take n) i w (λj hj=>by rw[hcb.1];rw[yN q _ (by omega)];rfl) (t-i) (by omega);rw[show i+(t-i)=t by omega]at this;rw[this]at a1
   have a3:(((stC e).drop i).take n)[t-i]?=some (.int .i64 (Mt.gt e t)):=by
    rw[List.getElem?_take_of_lt (by omega),List.getElem?_drop,show i+(t-i)=t by omega];simp[stC,ht]
   rw[lK (by omega)]at a3;rw[a3]at a1;rw[a1]at a2;injection a2 with a2;exact a2.symm
  ·rw[if_neg hin]at a2
   have:=World.cell?_setCells_out b (((stC e).drop i).take n) i w ⟨b,t,none⟩ (λ_ _=>by
    dsimp only;rcases Nat.lt_or_ge t i with h | h
    ·exact Or.inl h
    ·exact Or.inr (by omega))
   rw[this,hcb.1,yN q t ht]at a1;injection a1 with a1;injection a2 with a2;rw[<-a1,<-a2]
 rw[this]
theorem wO{w:World}{b i:Nat}{vs:List Value}(j:Nat)(h:j≠b):(w.setCells b i vs).heap[j]?=w.heap[j]?:=qZ b vs i w j h
theorem Tryz.underArr20:(Tryz.prog.info? 55).map (·.size)=some 20:=by kernel_rfl
theorem Tryz.underArr10:(Tryz.prog.info? 127).map (·.size)=some 10:=by kernel_rfl
theorem zBZ{w:World}{b:Nat}{e:List Int}(h:w.heap[b]?=some (.cells (zTS e) 130 (0,0)))(i n:Nat):w.rangeAt b i (((stC e).drop i).take n):=λj v hv=>by
 rw[(zC h).1]
 have:(stC e)[i+j]?=some v:=by
  rw[List.getElem?_take]at hv;split at hv
  ·rwa [List.getElem?_drop]at hv
  ·cases hv
 simpa[zTS]using this
abbrev Told:=List Int->Bool->Int->List Bool->Int->List (List Int)->Prop
def zFV(k:Pk)(wo:Option Addr)(P:Told)(z:World)(q':List Int)(b:Bool)(w':World):Prop:=∃st' hd' zX wo' wc' W',q'.length=43/\zV k w' st' hd' zX wo' wc' W'/\jV k wo wo' z w'/\W'.length<=99999/\P q' b st' hd' zX W'
def zCW(x:Mt.zTG)(b:Bool):Bool:=if x.x=0 then b else if x.x=1 then b else !b
def nW(k:Pk)(wo:Option Addr)(P:Told)(w:World)(q:List Int)(x:Mt.zTG)(w':World):Prop:=∃q' b st' hd' zX wo' wc' W',q'.length=43/\P q' b st' hd' zX W'/\zV k w' st' hd' zX wo' wc' (zA8 W' (zCW x b) (Mt.zCI q x q'))/\jV k wo wo' w w'
section
variable {k:Pk} {w:World} {steps:Int} {hd:List Bool} {zD:Int} {wo:Option Addr} {wc:Nat} {W:List (List Int)}
structure zQS (k:Pk) (wo:Option Addr) (P:Told) (w:World) (n m:Nat) (q:List Int) (x:Mt.zTG) (q':List Int) (b:Bool) (w5:World):Prop where
 s:w5.heap[n]?=some (.cells (zTS q) 130 (0,0))
 i:w5.heap[n+1]?=some (.cells (yR x) 48 (0,0))
 e:w5.heap[m]?=some (.cells (zTS q') 130 (0,0))
 nm:n<m/\n≠m
 done:∃st' hd' zX wo' wc' W',q'.length=43/\zV k w5 st' hd' zX wo' wc' W'/\jV k wo wo' w w5/\W'.length<=99999/\P q' b st' hd' zX W'/\(k.g<n/\k.gc<n/\k.gl<n/\k.gs<n/\k.gh<n)/\(∀z,blk wo'=some z->z≠n)
 hn:n=w.heap.size
theorem zHe(h:zV k w steps hd zD wo wc W)(q:List Int)(hq:q.length=43)(x:Mt.zTG)(pc:Nat)(hp0:Mt.gt q 0=pc)(hpc:pc<=300)(P:Told)
  (hrun:∀z:World,zV k z steps hd zD wo wc W->Calls Tryz.prog 78 #[.pointer (some ⟨k.g,0,none⟩),.agg (zTS (q.set 0 ((pc:Int)+1)))] z λe w'=>∃q' b,e=.returned (.tuple #[.agg (zTS q'),.bool b])/\zFV k wo P z q' b w')
  (hxx:(x.x==0)=true\/((x.x==0)=false/\(x.x==1)=true)\/((x.x==0)=false/\(x.x==1)=false/\(x.x==2)=true)) :
  Calls Tryz.prog 140 #[.pointer (some ⟨k.g,0,none⟩),.agg (zTS q),.agg (yR x)] w λe w'=>e=.returned (.tuple #[])/\nW k wo P w q x w':=by
 obtain⟨W1,hW1,B1,T1,U1,Z1⟩:=wN w q x;have HP0:Hid (zV k w steps hd zD wo wc W):=h;have HR:Hid (∀z:World,zV k z steps hd zD wo wc W->Calls Tryz.prog 78 #[.pointer (some ⟨k.g,0,none⟩),.agg (zTS (q.set 0 ((pc:Int)+1)))] z λe w'=>∃q' b,e=.returned (.tuple #[.agg (zTS q'),.bool b])/\zFV k wo P z q' b w'):=hrun;have HXX:Hid ((x.x==0)=true\/((x.x==0)=false/\(x.x==1)=true)\/((x.x==0)=false/\(x.x==1)=false/\(x.x==2)=true)):=hxx;have HU1:Hid (W1.heap[w.heap.size+1]?=some (.cells (yR x) 48 (0,0))):=U1;have HB1:Hid (Below w.heap.size w W1):=B1;have HZ1:Hid (W1.heap.size=w.heap.size+2):=Z1;obtain⟨zTI⟩:Nonempty (k.g<w.heap.size):=⟨h.lt.1⟩
 clear h hrun hxx U1 B1 Z1;generalize hgg:k.g=g at *;go_enter Tryz.func140,Tryz.ntmps140
 go_upto_region 1 with fail
 rw[<-hW1];clear hW1;generalize hnn:w.heap.size=n at *;have HT1:Hid (W1.heap[n]?=some (.cells (zTS q) 130 (0,0))):=T1;go_upto_region 2 with (first|(refine kQ 130 43 Tryz.underlying130 rfl Tryz.sizeSt (by rfl) (.tmp 4) (by rfl) n (by rfl) T1 (kK _) ?_)|(refine zM 130 43 Tryz.sizeSt (by rfl) (.tmp 6) (.tmp 9) (by rfl) W1.heap.size (zTS q) (by rfl) (by rfl) (by exact jR _ _) (by rfl) (kK _) (mH _) ?_;intro w2 r1 r2 r3 r4))
 have S2:w2.heap[n]?=some (.cells (zTS q) 130 (0,0)):=by rw[r2 n (by have:=HZ1.out;omega),kT _ _ _ (by have:=HZ1.out;omega)];exact T1
 have I2:w2.heap[n+1]?=some (.cells (yR x) 48 (0,0)):=by rw[r2 (n+1) (by have:=HZ1.out;omega),kT _ _ _ (by have:=HZ1.out;omega)];exact HU1.out
 have B2:Below n w w2:=(HB1.out.alloc (by have:=HZ1.out;omega) _).trans (r4 n (by have:=HZ1.out;omega));rw[HZ1.out]at r1;have Z2:w2.heap.size=n+3:=by rw[r3];simp[HZ1.out]
 have x0:w2.cell? ⟨n,0,none⟩=some (.int .i64 pc):=by rw[(zC S2).1 0,<-hp0];exact yN q 0 (by omega)
 have y0:w2.cell? ⟨n+2,0,none⟩=some (.int .i64 (Mt.gt q 0)):=by rw[(zC r1).1 0];exact yN q 0 (by omega)
 have f0:w2.frozen? ⟨n+2,0,none⟩=false:=(zC r1).2 0
 have F3:(w2.setCell ⟨n+2,0,none⟩ (.int .i64 ((pc:Int)+1))).heap[n+2]?=some (.cells (zTS (q.set 0 ((pc:Int)+1))) 130 (0,0)):=by
  rw[<-nV q hq];exact Go.heap_setCell_same w2 (n+2) 0 _ _ _ r1
 have S3:(w2.setCell ⟨n+2,0,none⟩ (.int .i64 ((pc:Int)+1))).heap[n]?=some (.cells (zTS q) 130 (0,0)):=(Below.heap_setCell _ _ _ _ (by show n≠n+2;omega)).trans S2;have I3:(w2.setCell ⟨n+2,0,none⟩ (.int .i64 ((pc:Int)+1))).heap[n+1]?=some (.cells (yR x) 48 (0,0)):=(Below.heap_setCell _ _ _ _ (by show n+1≠n+2;omega)).trans I2;have B3:Below n w (w2.setCell ⟨n+2,0,none⟩ (.int .i64 ((pc:Int)+1))):=B2.setCell (p:=⟨n+2,0,none⟩) (by show n<=n+2;omega) _;have Z3:(w2.setCell ⟨n+2,0,none⟩ (.int .i64 ((pc:Int)+1))).heap.size=n+3:=by simp[World.setCell,Z2]
 have HZ:W1.heap.size=n+2:=HZ1.out;rw[HZ];clear r1 r2 r3 r4 T1 S2 I2 B2 Z2 HT1 HU1 HB1 HZ1;go_upto_region 3 with fail
 clear x0 y0 f0;generalize w2.setCell ⟨n+2,0,none⟩ (.int .i64 ((pc:Int)+1))=w3 at *;have HP3:zV k w3 steps hd zD wo wc W:=HP0.out.below (by rw[hnn];exact B3);have zQT:Hid (Calls Tryz.prog 78 #[.pointer (some ⟨g,0,none⟩),.agg (zTS (q.set 0 ((pc:Int)+1)))] w3 λe w'=>∃q' b,e=.returned (.tuple #[.agg (zTS q'),.bool b])/\zFV k wo P w3 q' b w'):=HR.out w3 HP3;have HB3:Hid (Below n w w3):=B3;have HS3:Hid (w3.heap[n]?=some (.cells (zTS q) 130 (0,0))):=S3;have HI3:Hid (w3.heap[n+1]?=some (.cells (yR x) 48 (0,0))):=I3;clear HP3 B3 S3 I3 HR;go_wp2_with (refine kQ 130 43 Tryz.underlying130 rfl Tryz.sizeSt (by rfl) (.tmp 6) (by rfl) (n+2) (by rfl) F3 (kK _) ?_)
 refine zQT.out.mono ?_;rintro e w4 ⟨q',b,rfl,hD⟩;have HD:Hid (zFV k wo P w3 q' b w4):=hD;clear hD F3 zQT;go_upto_region 4 with (refine zM 130 43 Tryz.sizeSt (by rfl) (.tmp 7) (.tmp 18) (by rfl) w4.heap.size (zTS q') (by rfl) (by rfl) (by exact jR _ _) (by rfl) (kK _) (mH _) ?_;intro w5 r1 r2 r3 r4)
 have HM:Hid (zQS k wo P w n w4.heap.size q x q' b w5):=by
  obtain⟨st',hd',zX,wo',wc',W',d1,d2,d3,d4,d5⟩:=HD.out;have hl:=HP0.out.lt;rw[hnn]at hl
  have hb4:∀j,n<=j->j<n+3->w5.heap[j]?=w3.heap[j]?:=λj h1 h2=>by
   have:=d3.size;rw[r2 j (by omega),kT _ _ _ (by omega)];exact d3.block j (by omega) (by omega) (by omega) (λe=>by have:=(hl.2.2.2.2.2 j e).2;omega)
  have hs4:=d3.size;have B5:Below w4.heap.size w4 w5:=((Below.refl _ _).alloc (lG _) _).trans (r4 _ (lG _));refine⟨(hb4 n (by omega) (by omega)).trans HS3.out,(hb4 (n+1) (by omega) (by omega)).trans HI3.out,r1,by omega,⟨st',hd',zX,wo',wc',W',d1,d2.below B5,((jV.below (by rw[hnn];exact HB3.out)).trans d3).trans (jV.below B5),d4,d5,by omega,λz hz e=>?_⟩,hnn.symm⟩;have:=d3.sub z (by omega) hz;have:=(hl.2.2.2.2.2 z this).2;omega
 clear r1 r2 r3 r4 HD HS3 HI3 HB3 HP0 Z3;generalize w4.heap.size=m at *;have hcI:=zC HM.out.i;have i1:w5.cell? ⟨n+1,1,none⟩=some (.int .i64 x.x):=hcI.1 1;have i2:w5.cell? ⟨n+1,2,none⟩=some (.int .i64 x.y):=hcI.1 2;have E5:=HM.out.e;have S5:=HM.out.s
 have HNO:Hid (zCW x b=false->nW k wo P w q x w5):=λhf=>by
  obtain⟨st',hd',zX,wo',wc',W',d1,d2,d3,d4,d5,_⟩:=HM.out.done;exact⟨q',b,st',hd',zX,wo',wc',W',d1,d5,by rw[hf,nK];exact d2,d3⟩
 have hq':q'.length=43:=by obtain⟨_,_,_,_,_,_,d1,_⟩:=HM.out.done;exact d1
 have HWT:Hid (∀(u:List Int) (z:World) (y:Int),u.length=43->Below n w5 z->(∀j,j≠n->z.heap[j]?=w5.heap[j]?)->Calls Tryz.prog 113 #[.pointer (some ⟨g,0,none⟩),.agg (zTS u),.int .i64 y] z λe w'=>e=.returned (.tuple #[])/\(zCW x b=true->u.set 0 y=Mt.zCI q x q'->nW k wo P w q x w')):=λu z y hu hz hzo=>by
  obtain⟨st',hd',zX,wo',wc',W',d1,d2,d3,d4,d5,d6,d7⟩:=HM.out.done;have hPz:zV k z st' hd' zX wo' wc' W':=d2.same (hzo _ (by omega)) (hzo _ (by omega)) (hzo _ (by omega)) (hzo _ (by omega)) (hzo _ (by omega)) (λi hi=>hzo i (d7 i hi))
  have hSz:jV k wo wo' w z:=by
   refine⟨hz.os.trans d3.os,hz.tape.trans d3.tape,hz.output.trans d3.output,Nat.le_trans d3.size hz.size,λi hi h1 h2 h3=>(hzo i (by omega)).trans (d3.block i hi h1 h2 h3),d3.sub⟩
  have:=mP u y hu hPz (by omega);rw[hgg]at this;refine this.mono ?_;rintro e w' ⟨rfl,wo2,wc2,hP2,hS2⟩;refine⟨rfl,λhf hu2=>⟨q',b,st',hd',zX,wo2,wc2,W',d1,d5,?_,hSz.trans hS2⟩⟩;rw[hf,pY,<-hu2];exact hP2
 clear hcI;have hnm:=HM.out.nm;rcases HXX.out with e0 | ⟨e0,e1⟩ | ⟨e0,e1,e2⟩
 ·cases b
  ·go_wp2_with fail
   go_returns;exact⟨rfl,HNO.out (by unfold zCW;rw[if_pos (by simpa using e0)])⟩
  ·go_wp2_with (refine kQ 130 43 Tryz.underlying130 rfl Tryz.sizeSt (by rfl) (.tmp 7) (by rfl) m (by rfl) E5 (kK _) ?_)
   refine(HWT.out _ _ _ hq' (Below.refl _ _) (λ_ _=>rfl)).mono ?_;rintro e w6 ⟨rfl,hF⟩;have HF:Hid (nW k wo P w q x w6):=hF (by unfold zCW;rw[if_pos (by simpa using e0)]) (by unfold Mt.zCI;rw[if_pos (by simpa using e0)]);clear hF;go_wp2_with fail
   go_returns;exact⟨rfl,HF.out⟩
 ·cases b
  ·go_wp2_with fail
   go_returns;exact⟨rfl,HNO.out (by unfold zCW;rw[if_neg (by simpa using e0),if_pos (by simpa using e1)])⟩
  ·have R1:=zBZ E5 2 20
   have TH1:w5.there n 2 20:=λj hj=>by
    have:=zC S5;rw[this.1,this.2,yN q _ (by omega)];exact⟨rfl,rfl⟩
   have S6:=zD7 (e:=q') S5 2 20 (by omega);have E6:(w5.setCells n 2 (((stC q').drop 2).take 20)).heap[m]?=some (.cells (zTS q') 130 (0,0)):=(wO m (by omega)).trans E5;have I6:(w5.setCells n 2 (((stC q').drop 2).take 20)).heap[n+1]?=some (.cells (yR x) 48 (0,0)):=(wO (n+1) (by omega)).trans HM.out.i;have B6:Below n w5 (w5.setCells n 2 (((stC q').drop 2).take 20)):=(below_setCells n _ 2 w5 n (lG _)).1;have O6:∀j,j≠n->(w5.setCells n 2 (((stC q').drop 2).take 20)).heap[j]?=w5.heap[j]?:=λj hj=>wO j hj
   have l1:(((stC q').drop 2).take 20).toArray.size=20:=by simp[stC]
   have l2:(((stC q').drop 22).take 10).toArray.size=10:=by simp[stC]
   have a1:(((stC q').drop 2).take 20).toArray.all (·.oneCell')=true:=by
    rw[List.all_toArray,List.all_eq_true];intro u hu;exact zIo q' u (List.mem_of_mem_drop (List.mem_of_mem_take hu))
   have a2:(((stC q').drop 22).take 10).toArray.all (·.oneCell')=true:=by
    rw[List.all_toArray,List.all_eq_true];intro u hu;exact zIo q' u (List.mem_of_mem_drop (List.mem_of_mem_take hu))
   go_upto_region 11 with (first|(refine wpList_load_mid (by rfl) 55 (.tmp 33) (by rfl) m 2 (by rfl) (((stC q').drop 2).take 20) _ R1 Tryz.underlying55 rfl (by rw[Tryz.underArr20,<-l1];rfl) ?_)|(refine wpList_store_mid (by rfl) 55 (.tmp 35) (.tmp 34) (by rfl) n 2 (((stC q').drop 2).take 20).toArray (by rfl) (by rfl) (by rw[l1];exact TH1) (by rw[Tryz.underArr20,l1]) a1 ?_))
   generalize w5.setCells n 2 (((stC q').drop 2).take 20)=w6 at *;have R2:=zBZ E6 22 10
   have TH2:w6.there n 22 10:=λj hj=>by
    have:=zC S6;rw[this.1,this.2,yN _ _ (by omega)];exact⟨rfl,rfl⟩
   have S7:=zD7 (e:=q') S6 22 10 (by omega);rw[show 2+20=22 from rfl,show 22+10=32 from rfl,zOo q q' hq hq']at S7;have I7:(w6.setCells n 22 (((stC q').drop 22).take 10)).heap[n+1]?=some (.cells (yR x) 48 (0,0)):=(wO (n+1) (by omega)).trans I6;have B7:Below n w5 (w6.setCells n 22 (((stC q').drop 22).take 10)):=B6.trans (below_setCells n _ 22 w6 n (lG _)).1;have O7:∀j,j≠n->(w6.setCells n 22 (((stC q').drop 22).take 10)).heap[j]?=w5.heap[j]?:=λj hj=>(wO j hj).trans (O6 j hj)
   have HB7:Hid (Below n w5 (w6.setCells n 22 (((stC q').drop 22).take 10))):=B7;have HO7:Hid (∀j,j≠n->(w6.setCells n 22 (((stC q').drop 22).take 10)).heap[j]?=w5.heap[j]?):=O7;clear B6 O6 S6 I6 TH1 R1 a1 l1 B7 O7 E5 S5 i1 i2;go_upto_region 12 with (first|(refine wpList_load_mid (by rfl) 127 (.tmp 36) (by rfl) m 22 (by rfl) (((stC q').drop 22).take 10) _ R2 Tryz.underlying127 rfl (by rw[Tryz.underArr10,<-l2];rfl) ?_)|(refine wpList_store_mid (by rfl) 127 (.tmp 38) (.tmp 37) (by rfl) n 22 (((stC q').drop 22).take 10).toArray (by rfl) (by rfl) (by rw[l2];exact TH2) (by rw[Tryz.underArr10,l2]) a2 ?_))
   generalize w6.setCells n 22 (((stC q').drop 22).take 10)=w7 at *;have i2:w7.cell? ⟨n+1,2,none⟩=some (.int .i64 x.y):=(zC I7).1 2;clear R2 TH2 I7 l2 a2 E6;go_wp2_with (refine kQ 130 43 Tryz.underlying130 rfl Tryz.sizeSt (by rfl) (.tmp 4) (by rfl) n (by rfl) S7 (kK _) ?_)
   refine(HWT.out _ _ _ (Mt.zCH q q' hq hq') HB7.out HO7.out).mono ?_;rintro e w8 ⟨rfl,hF⟩;have HF:Hid (nW k wo P w q x w8):=hF (by unfold zCW;rw[if_neg (by simpa using e0),if_pos (by simpa using e1)]) (by unfold Mt.zCI;rw[if_neg (by simpa using e0),if_pos (by simpa using e1)]);clear hF;go_wp2_with fail
   go_returns;exact⟨rfl,HF.out⟩
 ·cases b
  ·go_wp2_with (refine kQ 130 43 Tryz.underlying130 rfl Tryz.sizeSt (by rfl) (.tmp 4) (by rfl) n (by rfl) S5 (kK _) ?_)
   refine(HWT.out _ _ _ hq (Below.refl _ _) (λ_ _=>rfl)).mono ?_;rintro e w6 ⟨rfl,hF⟩;have HF:Hid (nW k wo P w q x w6):=hF (by unfold zCW;rw[if_neg (by simpa using e0),if_neg (by simpa using e1)];rfl) (by unfold Mt.zCI;rw[if_neg (by simpa using e0),if_neg (by simpa using e1)]);clear hF;go_wp2_with fail
   go_returns;exact⟨rfl,HF.out⟩
  ·go_wp2_with fail
   go_returns;exact⟨rfl,HNO.out (by unfold zCW;rw[if_neg (by simpa using e0),if_neg (by simpa using e1)];rfl)⟩
end
def zC8(k:Pk)(wo:Option Addr)(P:Told)(w:World)(q:List Int)(x:Mt.zTG)(steps:Int)(hd:List Bool)(zD:Int)(W:List (List Int))(b:Bool)(w':World):Prop :=
 (x.op=2->b=false/\Waits k wo w steps hd zD ((W++[q.set 0 x.y])++[q.set 0 x.x]) w') /\
 (x.op=12\/x.op=13->b=true/\Waits k wo w steps hd zD W w') /\
 (x.op=11->b=false/\nW k wo P w q x w') /\
 (x.op≠2->x.op≠11->x.op≠12->x.op≠13->b=false/\Waits k wo w steps hd zD (zA8 W (Mt.vC k.t q x).2 (Mt.vC k.t q x).1) w')
section
variable {k:Pk} {w:World} {steps:Int} {hd:List Bool} {zD:Int} {wo:Option Addr} {wc:Nat} {W:List (List Int)}
theorem zV.zJi(h:zV k w steps hd zD wo wc W)(p j:Nat)(hp:p<k.c.length)(hj:j<4):w.cell? ⟨k.gc,p*4+j,none⟩=(kM (k.c.getD p Mt.jY))[j]?:=by
 have hc:=h.code;unfold zF at hc;rw[World.ownsRow.cellAt hc (p*4+j) (by omega),bX k.c p j hp hj]
structure zCp (k:Pk) (wo:Option Addr) (wc:Nat) (w:World) (n:Nat) (q:List Int) (x:Mt.zTG) (steps:Int) (hd:List Bool) (zD:Int) (W:List (List Int)) (w2:World):Prop where
 s:w2.heap[n]?=some (.cells (zTS q) 130 (0,0))
 i:w2.heap[n+1]?=some (.cells (yR x) 48 (0,0))
 b:Below n w w2
 z:w2.heap.size=n+2
 hn:n=w.heap.size
 p:zV k w steps hd zD wo wc W
section
variable {n:Nat} {q:List Int} {x:Mt.zTG} {w2:World}
theorem zCp.wait(h:zCp k wo wc w n q x steps hd zD W w2)(u:List Int)(z:World)(y:Int)(hu:u.length=43)(hz:Below n w2 z)(hl:W.length<=100000) :
  Calls Tryz.prog 113 #[.pointer (some ⟨k.g,0,none⟩),.agg (zTS u),.int .i64 y] z λe w'=>e=.returned (.tuple #[])/\Waits k wo w steps hd zD (W++[u.set 0 y]) w'/\(∀j,n<=j->j<z.heap.size->w'.heap[j]?=z.heap[j]?)/\z.heap.size<=w'.heap.size:=by
 have hb:Below w.heap.size w z:=by rw[<-h.hn];exact h.b.trans hz
 have hp:=h.p.below hb;have zTI:=h.p.lt;have hn:=h.hn;refine(mP u y hu hp (by omega)).mono ?_;rintro e w' ⟨rfl,wo',wc',hP,hS⟩;refine⟨rfl,⟨wo',wc',hP,(jV.below hb).trans hS⟩,λj h1 h2=>hS.block j h2 (by omega) (by omega) (λe=>by have:=(zTI.2.2.2.2.2 j e).2;omega),hS.size⟩
theorem zCp.set(h:zCp k wo wc w n q x steps hd zD W w2)(hq:q.length=43)(j:Nat)(v:Int):(w2.setCell ⟨n,j,none⟩ (.int .i64 v)).heap[n]?=some (.cells (zTS (q.set j v)) 130 (0,0))/\Below n w2 (w2.setCell ⟨n,j,none⟩ (.int .i64 v))/\(w2.setCell ⟨n,j,none⟩ (.int .i64 v)).heap[n+1]?=some (.cells (yR x) 48 (0,0)):=by
 refine⟨?_,(Below.refl _ _).setCell (p:=⟨n,j,none⟩) (lG _) _,?_⟩
 ·rw[<-nV q hq];exact Go.heap_setCell_same w2 n j _ _ _ h.s
 ·exact(Below.heap_setCell _ _ _ _ (by show n+1≠n;omega)).trans h.i
end
theorem zMx(h:zV k w steps hd zD wo wc W)(q:List Int)(hq:q.length=43)(pc pos:Nat)(hp0:Mt.gt q 0=pc)(hp1:Mt.gt q 1=pos)(hpc:pc<k.c.length)(hc:k.c.length<=300)(dI:pos<=60)(hW:W.length<=90000)(P:Told)(x:Mt.zTG)(hx:k.c.getD pc Mt.jY=x)
  (m4:x.op=4->0<=x.x/\x.x<11) (m5:x.op=5->0<=x.y/\x.y<11) (m6:x.op=6\/x.op=7->0<=x.x/\x.x<10) (m1:1<=x.op/\x.op<=13)
  (hcmp:∀z:World,zV k z steps hd zD wo wc W->(x.op=1\/x.op=8\/x.op=9\/x.op=10)->Calls Tryz.prog 141 #[.pointer (some ⟨k.g,0,none⟩),.agg (zTS q),.agg (yR x)] z λe w'=>e=.returned (.tuple #[])/\Waits k wo z steps hd zD (zA8 W (Mt.vC k.t q x).2 (Mt.vC k.t q x).1) w')
  (hsub:∀z:World,zV k z steps hd zD wo wc W->x.op=11->Calls Tryz.prog 140 #[.pointer (some ⟨k.g,0,none⟩),.agg (zTS q),.agg (yR x)] z λe w'=>e=.returned (.tuple #[])/\nW k wo P z q x w') :
  Calls Tryz.prog 115 #[.pointer (some ⟨k.g,0,none⟩),.agg (zTS q)] w λe w'=>∃b,e=.returned (.bool b)/\zC8 k wo P w q x steps hd zD W b w':=by
 have c0:=h.cells.1;have j0:=h.zJi pc 0 hpc (by omega);have j1:=h.zJi pc 1 hpc (by omega);have j2:=h.zJi pc 2 hpc (by omega);have j3:=h.zJi pc 3 hpc (by omega);rw[hx]at j0 j1 j2 j3;have hg:k.g<w.heap.size:=h.lt.1;have hgc:k.gc<w.heap.size:=h.lt.2.1;have HP0:Hid (zV k w steps hd zD wo wc W):=h;have zRB:(pc:Int)<(k.c.length:Int):=by omega
 have HX4:Hid ((x.op=4->0<=x.x/\x.x<11)/\(x.op=5->0<=x.y/\x.y<11)/\(x.op=6\/x.op=7->0<=x.x/\x.x<10)/\(1<=x.op/\x.op<=13)):=⟨m4,m5,m6,m1⟩
 have zSH:Hid (∀z:World,zV k z steps hd zD wo wc W->(x.op=1\/x.op=8\/x.op=9\/x.op=10)->Calls Tryz.prog 141 #[.pointer (some ⟨k.g,0,none⟩),.agg (zTS q),.agg (yR x)] z λe w'=>e=.returned (.tuple #[])/\Waits k wo z steps hd zD (zA8 W (Mt.vC k.t q x).2 (Mt.vC k.t q x).1) w'):=hcmp;have zSI:Hid (∀z:World,zV k z steps hd zD wo wc W->x.op=11->Calls Tryz.prog 140 #[.pointer (some ⟨k.g,0,none⟩),.agg (zTS q),.agg (yR x)] z λe w'=>e=.returned (.tuple #[])/\nW k wo P z q x w'):=hsub;clear h m4 m5 m6 m1 hcmp hsub hx;generalize hgg:k.g=g at *;generalize k.gc=gc at *;generalize k.c.length=CL at *;generalize k.cc=ccc at *;go_enter Tryz.func115,Tryz.ntmps115
 go_upto_region 1 with fail
 generalize hW1:w.alloc (.cells (zTS q) 130)=W1 at *;have B1:Below w.heap.size w W1:=by rw[<-hW1];exact(Below.refl _ _).alloc (lG _) _
 have T1:W1.heap[w.heap.size]?=some (.cells (zTS q) 130 (0,0)):=by rw[<-hW1];exact heap_alloc_new _ _
 have Z1:W1.heap.size=w.heap.size+1:=by rw[<-hW1];simp
 have x0:W1.cell? ⟨w.heap.size,0,none⟩=some (.int .i64 pc):=by rw[(zC T1).1 0,<-hp0];exact yN q 0 (by omega)
 have o:∀b j,b<w.heap.size->W1.cell? ⟨b,j,none⟩=w.cell? ⟨b,j,none⟩:=λb j hb=>World.cell?_of_block (a:=⟨b,j,none⟩) (B1.block b hb)
 rw[<-o _ _ hg]at c0;rw[<-o _ _ hgc]at j0 j1 j2 j3;have k0:W1.cell? ⟨gc,pc*4,none⟩=some (.int .i64 x.op):=j0;have k1:W1.cell? ⟨gc,pc*4+1,none⟩=some (.int .i64 x.x):=j1;have k2:W1.cell? ⟨gc,pc*4+2,none⟩=some (.int .i64 x.y):=j2;have k3:W1.cell? ⟨gc,pc*4+3,none⟩=some (.string ⟨x.set.toArray⟩):=j3;clear o j0 j1 j2 j3 hW1;generalize hnn:w.heap.size=n at *
 go_region
 have HM:zCp k wo wc w n q x steps hd zD W (W1.alloc (.cells (yR x) 48)).drew:=by
  refine⟨?_,?_,?_,by simp[Z1],hnn.symm,HP0.out⟩
  ·show(W1.alloc _).heap[n]?=_;rw[kT _ _ _ (by omega)];exact T1
  ·show(W1.alloc _).heap[n+1]?=_;rw[<-Z1];exact heap_alloc_new _ _
  ·exact(B1.alloc (by omega) _).drew
 have hw2:(W1.alloc (.cells (yR x) 48)).drew=(W1.alloc (.cells #[.int .i64 x.op,.int .i64 x.x,.int .i64 x.y,.string ⟨x.set.toArray⟩] 48)).drew:=rfl;rw[hw2]at HM;clear hw2;generalize (W1.alloc (.cells #[.int .i64 x.op,.int .i64 x.x,.int .i64 x.y,.string ⟨x.set.toArray⟩] 48)).drew=w2 at *;have S2:=HM.s;have hcS:=zC S2;have hcI:=zC HM.i;have i0:w2.cell? ⟨n+1,0,none⟩=some (.int .i64 x.op):=hcI.1 0;have i1:w2.cell? ⟨n+1,1,none⟩=some (.int .i64 x.x):=hcI.1 1;have i2:w2.cell? ⟨n+1,2,none⟩=some (.int .i64 x.y):=hcI.1 2;have s0:w2.cell? ⟨n,0,none⟩=some (.int .i64 pc):=by rw[hcS.1 0,<-hp0];exact yN q 0 (by omega)
 have s1:w2.cell? ⟨n,1,none⟩=some (.int .i64 pos):=by rw[hcS.1 1,<-hp1];exact yN q 1 (by omega)
 have HSJ:Hid (∀j,j<43->w2.cell? ⟨n,j,none⟩=some (.int .i64 (Mt.gt q j))/\w2.frozen? ⟨n,j,none⟩=false):=λj hj=>⟨by rw[hcS.1 j];exact yN q j hj,hcS.2 j⟩
 have HMH:Hid (zCp k wo wc w n q x steps hd zD W w2):=HM
 have HWT:Hid (∀(u:List Int) (z:World) (y:Int),u.length=43->Below n w2 z->Calls Tryz.prog 113 #[.pointer (some ⟨g,0,none⟩),.agg (zTS u),.int .i64 y] z λe w'=>e=.returned (.tuple #[])/\Waits k wo w steps hd zD (W++[u.set 0 y]) w'/\(∀j,n<=j->j<z.heap.size->w'.heap[j]?=z.heap[j]?)/\z.heap.size<=w'.heap.size):=λu z y hu hz=>by
  rw[<-hgg];exact HM.wait u z y hu hz (by omega)
 have HPZ:Hid (zV k w2 steps hd zD wo wc W):=HM.p.below (by rw[hnn];exact HM.b);have Z2:=HM.z;have HB2:Hid (Below n w w2):=HM.b;have HX5:=HX4.out;clear hcS hcI HM x0 c0 k0 k1 k2 k3 T1 Z1 B1
 have HOP:Hid (((x.op==2)=true)\/((x.op==2)=false/\(x.op==3)=true)\/((x.op==2)=false/\(x.op==3)=false/\(x.op==4)=true)\/((x.op==2)=false/\(x.op==3)=false/\(x.op==4)=false/\(x.op==5)=true)
  \/ ((x.op==2)=false/\(x.op==3)=false/\(x.op==4)=false/\(x.op==5)=false/\(x.op==6)=true)\/((x.op==2)=false/\(x.op==3)=false/\(x.op==4)=false/\(x.op==5)=false/\(x.op==6)=false/\(x.op==7)=true)
  \/ ((x.op==2)=false/\(x.op==3)=false/\(x.op==4)=false/\(x.op==5)=false/\(x.op==6)=false/\(x.op==7)=false/\(x.op==11)=true)
  \/ ((x.op==2)=false/\(x.op==3)=false/\(x.op==4)=false/\(x.op==5)=false/\(x.op==6)=false/\(x.op==7)=false/\(x.op==11)=false/\(x.op==12)=true)
  \/ ((x.op==2)=false/\(x.op==3)=false/\(x.op==4)=false/\(x.op==5)=false/\(x.op==6)=false/\(x.op==7)=false/\(x.op==11)=false/\(x.op==12)=false/\(x.op==13)=true)
  \/ ((x.op==2)=false/\(x.op==3)=false/\(x.op==4)=false/\(x.op==5)=false/\(x.op==6)=false/\(x.op==7)=false/\(x.op==11)=false/\(x.op==12)=false/\(x.op==13)=false)):=by
  show _\/_;simp only[beq_iff_eq,beq_eq_false_iff_ne];omega
 obtain⟨m4,m5,m6,m1⟩:=HX5;rcases HOP.out with e2 | ⟨e2,e3⟩ | ⟨e2,e3,e4⟩ | ⟨e2,e3,e4,e5⟩ | ⟨e2,e3,e4,e5,e6⟩ | ⟨e2,e3,e4,e5,e6,e7⟩ | ⟨e2,e3,e4,e5,e6,e7,e11⟩ | ⟨e2,e3,e4,e5,e6,e7,e11,e12⟩ | ⟨e2,e3,e4,e5,e6,e7,e11,e12,e13⟩ | ⟨e2,e3,e4,e5,e6,e7,e11,e12,e13⟩
 ·have HO:Hid (x.op=2):=by show _=_;simpa using e2
  clear m4 m5 m6 m1;go_wp2_with (refine kQ 130 43 Tryz.underlying130 rfl Tryz.sizeSt (by rfl) (.tmp 3) (by rfl) n (by rfl) S2 (kK _) ?_)
  refine(HWT.out q w2 x.y hq (Below.refl _ _)).mono ?_;rintro e w3 ⟨rfl,hWt,hO,hz3⟩;obtain⟨wo',wc',hP,hS⟩:=hWt;have S3:w3.heap[n]?=some (.cells (zTS q) 130 (0,0)):=(hO n (lG _) (by omega)).trans S2;have I3:=(hO (n+1) (by omega) (by omega)).trans HMH.out.i;have v1:w3.cell? ⟨n+1,1,none⟩=some (.int .i64 x.x):=(zC I3).1 1;have H2:=mP q x.x hq hP (by simp;omega);rw[hgg]at H2;have H2H:Hid (Calls Tryz.prog 113 #[.pointer (some ⟨g,0,none⟩),.agg (zTS q),.int .i64 x.x] w3 _):=H2;have HSS:Hid (jV k wo wo' w w3):=hS;clear hO I3 hP hS H2 i0 i1 i2 s0 s1 S2;go_wp2_with (refine kQ 130 43 Tryz.underlying130 rfl Tryz.sizeSt (by rfl) (.tmp 3) (by rfl) n (by rfl) S3 (kK _) ?_)
  refine H2H.out.mono ?_;rintro e w4 ⟨rfl,wo2,wc2,hP2,hS2⟩;have HF:Hid (Waits k wo w steps hd zD ((W++[q.set 0 x.y])++[q.set 0 x.x]) w4):=⟨wo2,wc2,hP2,HSS.out.trans hS2⟩
  clear hP2 hS2;go_wp2_with fail
  go_ret;have ho:=HO.out;exact⟨false,rfl,λ_=>⟨rfl,HF.out⟩,λh=>by omega,λh=>by omega,λh=>by omega⟩
 ·have HO:Hid (x.op=3):=by show _=_;simpa using e3
  clear m4 m5 m6 m1;go_wp2_with (refine kQ 130 43 Tryz.underlying130 rfl Tryz.sizeSt (by rfl) (.tmp 3) (by rfl) n (by rfl) S2 (kK _) ?_)
  refine(HWT.out q w2 x.x hq (Below.refl _ _)).mono ?_;rintro e w3 ⟨rfl,hWt,_,_⟩;have HF:Hid (Waits k wo w steps hd zD (W++[q.set 0 x.x]) w3):=hWt;clear hWt;go_wp2_with fail
  go_ret;have ho:=HO.out;refine⟨false,rfl,λh=>by omega,λh=>by omega,λh=>by omega,λ_ _ _ _=>⟨rfl,?_⟩⟩;have:Mt.vC k.t q x=(q.set 0 x.x,true):=by unfold Mt.vC;rw[if_neg (by omega),if_pos ho]
  rw[this,pY];exact HF.out
 ·have HO:Hid (x.op=4):=by show _=_;simpa using e4
  have h4:=m4 HO.out;obtain⟨X,hX⟩:∃X:Nat,x.x=(X:Int):=⟨x.x.toNat,by omega⟩
  have zSJ:X<11:=by omega
  have zRE:(X:Int)<11:=by omega
  rw[hX]at i1;obtain⟨sm,fm⟩:=HSJ.out (32+X) (by omega);obtain⟨S3,B3,_⟩:=HMH.out.set hq (32+X) (pos:Int);have HB3:Hid (Below n w2 (w2.setCell ⟨n,32+X,none⟩ (.int .i64 (pos:Int)))):=B3;have HXX:Hid (x.x=(X:Int)):=hX;clear m4 m5 m6 m1 S2 B3 h4 hX;go_wp2_with (refine kQ 130 43 Tryz.underlying130 rfl Tryz.sizeSt (by rfl) (.tmp 3) (by rfl) n (by rfl) S3 (kK _) ?_)
  refine(HWT.out _ _ _ (by simp[hq]) HB3.out).mono ?_;rintro e w3 ⟨rfl,hWt,_,_⟩;have HF:Hid (Waits k wo w steps hd zD (W++[(q.set (32+X) (pos:Int)).set 0 ((pc:Int)+1)]) w3):=hWt;clear hWt;go_wp2_with fail
  go_ret;have ho:=HO.out;refine⟨false,rfl,λh=>by omega,λh=>by omega,λh=>by omega,λ_ _ _ _=>⟨rfl,?_⟩⟩;have:Mt.vC k.t q x=((q.set (32+X) (pos:Int)).set 0 ((pc:Int)+1),true):=by unfold Mt.vC;rw[if_neg (by omega),if_neg (by omega),if_pos ho,HXX.out,hp0,hp1];rfl
  rw[this,pY];exact HF.out
 ·have HO:Hid (x.op=5):=by show _=_;simpa using e5
  have h5:=m5 HO.out;obtain⟨X,hX⟩:∃X:Nat,x.y=(X:Int):=⟨x.y.toNat,by omega⟩
  have zSJ:X<11:=by omega
  have zRE:(X:Int)<11:=by omega
  rw[hX]at i2;obtain⟨sm,fm⟩:=HSJ.out (32+X) (by omega);have HXX:Hid (x.y=(X:Int)):=hX
  have HON:Hid (Mt.vC k.t q x=(q.set 0 x.x,Mt.gt q (32+X) != (pos:Int))):=by
   show _=_;have ho:=HO.out;unfold Mt.vC;rw[if_neg (by omega),if_neg (by omega),if_neg (by omega),if_pos ho,hX,hp1];rfl
  have S3:w2.drew.heap[n]?=some (.cells (zTS q) 130 (0,0)):=S2;clear m4 m5 m6 m1 S2 h5 hX fm;cases hmk:(Mt.gt q (32+X) != (pos:Int))
  ·go_wp2_with fail
   go_region
   go_wp2_with fail
   go_ret;have ho:=HO.out;refine⟨false,rfl,λh=>by omega,λh=>by omega,λh=>by omega,λ_ _ _ _=>⟨rfl,?_⟩⟩;rw[HON.out,hmk,nK];exact bG HP0.out (by rw[hnn];exact HB2.out.drew)
  ·go_wp2_with fail
   go_region
   go_wp2_with (refine kQ 130 43 Tryz.underlying130 rfl Tryz.sizeSt (by rfl) (.tmp 3) (by rfl) n (by rfl) S3 (kK _) ?_)
   refine(HWT.out q w2.drew x.x hq (Below.refl _ _).drew).mono ?_;rintro e w3 ⟨rfl,hWt,_,_⟩;have HF:Hid (Waits k wo w steps hd zD (W++[q.set 0 x.x]) w3):=hWt;clear hWt;go_wp2_with fail
   go_ret;have ho:=HO.out;refine⟨false,rfl,λh=>by omega,λh=>by omega,λh=>by omega,λ_ _ _ _=>⟨rfl,?_⟩⟩;rw[HON.out,hmk,pY];exact HF.out
 ·have HO:Hid (x.op=6):=by show _=_;simpa using e6
  have h6:=m6 (Or.inl HO.out);obtain⟨X,hX⟩:∃X:Nat,x.x=(X:Int):=⟨x.x.toNat,by omega⟩
  have zRY:X<10:=by omega
  have zSK:(X:Int)<10:=by omega
  rw[hX]at i1;obtain⟨sm,fm⟩:=HSJ.out (22+X) (by omega);obtain⟨S3,B3,_⟩:=HMH.out.set hq (22+X) (pos:Int);have HB3:Hid (Below n w2 (w2.setCell ⟨n,22+X,none⟩ (.int .i64 (pos:Int)))):=B3;have HXX:Hid (x.x=(X:Int)):=hX;clear m4 m5 m6 m1 S2 B3 h6 hX;go_wp2_with (refine kQ 130 43 Tryz.underlying130 rfl Tryz.sizeSt (by rfl) (.tmp 3) (by rfl) n (by rfl) S3 (kK _) ?_)
  refine(HWT.out _ _ _ (by simp[hq]) HB3.out).mono ?_;rintro e w3 ⟨rfl,hWt,_,_⟩;have HF:Hid (Waits k wo w steps hd zD (W++[(q.set (22+X) (pos:Int)).set 0 ((pc:Int)+1)]) w3):=hWt;clear hWt;go_wp2_with fail
  go_ret;have ho:=HO.out;refine⟨false,rfl,λh=>by omega,λh=>by omega,λh=>by omega,λ_ _ _ _=>⟨rfl,?_⟩⟩;have:Mt.vC k.t q x=((q.set (22+X) (pos:Int)).set 0 ((pc:Int)+1),true):=by unfold Mt.vC;rw[if_neg (by omega),if_neg (by omega),if_neg (by omega),if_neg (by omega),if_pos ho,HXX.out,hp0,hp1];rfl
  rw[this,pY];exact HF.out
 ·have HO:Hid (x.op=7):=by show _=_;simpa using e7
  have h7:=m6 (Or.inr HO.out);obtain⟨X,hX⟩:∃X:Nat,x.x=(X:Int):=⟨x.x.toNat,by omega⟩
  have zRY:X<10:=by omega
  rw[hX]at i1;have HXX:Hid (x.x=(X:Int)):=hX;have HCG:Hid (Calls Tryz.prog 139 #[.pointer (some ⟨n,0,none⟩),.int .i64 (X:Nat)] w2 _):=zD4 w2 n q hq S2 X zRY;clear m4 m5 m6 m1 S2 h7 hX;go_wp2_with fail
  refine HCG.out.mono ?_;rintro e w3 ⟨rfl,S3,b3,o3,z3⟩;have HB3:Hid (Below n w2 w3):=b3 n (lG _);clear b3 o3 i0 i1 i2 s0 s1;go_wp2_with (refine kQ 130 43 Tryz.underlying130 rfl Tryz.sizeSt (by rfl) (.tmp 3) (by rfl) n (by rfl) S3 (kK _) ?_)
  refine(HWT.out _ _ _ (by simp[hq]) HB3.out).mono ?_;rintro e w4 ⟨rfl,hWt,_,_⟩;have HF:Hid (Waits k wo w steps hd zD (W++[((q.set (2+2*X) (Mt.gt q (22+X))).set (2+(2*X+1)) (pos:Int)).set 0 ((pc:Int)+1)]) w4):=hWt;clear hWt;go_wp2_with fail
  go_ret;have ho:=HO.out;refine⟨false,rfl,λh=>by omega,λh=>by omega,λh=>by omega,λ_ _ _ _=>⟨rfl,?_⟩⟩
  have:Mt.vC k.t q x=(((q.set (2+2*X) (Mt.gt q (22+X))).set (2+(2*X+1)) (pos:Int)).set 0 ((pc:Int)+1),true):=by
   have hxx:=HXX.out;unfold Mt.vC;rw[if_neg (by omega),if_neg (by omega),if_neg (by omega),if_neg (by omega),if_neg (by omega),if_pos ho,hp0,hp1,show(2*x.x).toNat=2*X by omega,show(2*x.x+1).toNat=2*X+1 by omega,show x.x.toNat=X by omega]
  rw[this,pY];exact HF.out
 ·have HO:Hid (x.op=11):=by show _=_;simpa using e11
  have HI2:w2.heap[n+1]?=some (.cells (yR x) 48 (0,0)):=HMH.out.i;have HSB:Hid (Calls Tryz.prog 140 #[.pointer (some ⟨g,0,none⟩),.agg (zTS q),.agg (yR x)] w2 λe w'=>e=.returned (.tuple #[])/\nW k wo P w2 q x w'):=zSI.out w2 HPZ.out HO.out;clear m4 m5 m6 m1;go_wp2_with (first|(refine kQ 130 43 Tryz.underlying130 rfl Tryz.sizeSt (by rfl) (.tmp 3) (by rfl) n (by rfl) S2 (kK _) ?_)|(refine kQ 48 4 Tryz.underlying48 rfl Tryz.sizeIn (by rfl) (.tmp 5) (by rfl) (n+1) (by rfl) HI2 (by rfl) ?_))
  refine HSB.out.mono ?_;rintro e w3 ⟨rfl,hSD⟩
  have HF:Hid (nW k wo P w q x w3):=by
   obtain⟨q',b,st',hd',zX,wo',wc',W',d1,d2,d3,d4⟩:=hSD;exact⟨q',b,st',hd',zX,wo',wc',W',d1,d2,d3,(jV.below (by rw[hnn];exact HB2.out)).trans d4⟩
  clear hSD;go_wp2_with fail
  go_ret;have ho:=HO.out;exact⟨false,rfl,λh=>by omega,λh=>by omega,λ_=>⟨rfl,HF.out⟩,λ_ h=>absurd ho h⟩
 ·have HO:Hid (x.op=12):=by show _=_;simpa using e12
  clear m4 m5 m6 m1;go_wp2_with fail
  go_ret;have ho:=HO.out;exact⟨true,rfl,λh=>by omega,λ_=>⟨rfl,bG HP0.out (by rw[hnn];exact HB2.out)⟩,λh=>by omega,λ_ _ h=>absurd ho h⟩
 ·have HO:Hid (x.op=13):=by show _=_;simpa using e13
  clear m4 m5 m6 m1;go_wp2_with fail
  go_ret;have ho:=HO.out;exact⟨true,rfl,λh=>by omega,λ_=>⟨rfl,bG HP0.out (by rw[hnn];exact HB2.out)⟩,λh=>by omega,λ_ _ _ h=>absurd ho h⟩
 ·have HO:Hid (x.op=1\/x.op=8\/x.op=9\/x.op=10):=by
   show _\/_;simp only[beq_eq_false_iff_ne]at *;omega
  have HI2:w2.heap[n+1]?=some (.cells (yR x) 48 (0,0)):=HMH.out.i;have HSB:Hid (Calls Tryz.prog 141 #[.pointer (some ⟨g,0,none⟩),.agg (zTS q),.agg (yR x)] w2 λe w'=>e=.returned (.tuple #[])/\Waits k wo w2 steps hd zD (zA8 W (Mt.vC k.t q x).2 (Mt.vC k.t q x).1) w'):=zSH.out w2 HPZ.out HO.out;clear m4 m5 m6 m1;go_wp2_with (first|(refine kQ 130 43 Tryz.underlying130 rfl Tryz.sizeSt (by rfl) (.tmp 3) (by rfl) n (by rfl) S2 (kK _) ?_)|(refine kQ 48 4 Tryz.underlying48 rfl Tryz.sizeIn (by rfl) (.tmp 5) (by rfl) (n+1) (by rfl) HI2 (by rfl) ?_))
  refine HSB.out.mono ?_;rintro e w3 ⟨rfl,hSD⟩
  have HF:Hid (Waits k wo w steps hd zD (zA8 W (Mt.vC k.t q x).2 (Mt.vC k.t q x).1) w3):=by
   obtain⟨wo',wc',d3,d4⟩:=hSD;exact⟨wo',wc',d3,(jV.below (by rw[hnn];exact HB2.out)).trans d4⟩
  clear hSD;go_wp2_with fail
  go_ret;have ho:=HO.out;exact⟨false,rfl,λh=>by omega,λh=>by omega,λh=>by omega,λ_ _ _ _=>⟨rfl,HF.out⟩⟩
end
inductive Pairs (k:Pk) (A:Int->Mt.Att):List (List Int)->List (List Int)->Prop
 | nil:Pairs k A [] []
 | cons {s q:List Int} {ss qs:List (List Int)}:zF9 k A s q->Pairs k A ss qs->Pairs k A (s::ss) (qs++[q])
theorem Pairs.len{k:Pk}{A:Int->Mt.Att}{ss qs:List (List Int)}(h:Pairs k A ss qs):ss.length=qs.length:=by
 induction h with
 | nil=>rfl
 | cons _ _ ih=>simp[ih]
theorem Pairs.out{k:Pk}{A:Int->Mt.Att}{ss qs:List (List Int)}(h:Pairs k A ss qs)(hn:0<qs.length):∃s q ss' qs',ss=s::ss'/\qs=qs'++[q]/\zF9 k A s q/\Pairs k A ss' qs':=by
 cases h with
 | nil=>simp at hn
 | cons h1 h2=>exact⟨_,_,_,_,rfl,rfl,h1,h2⟩
theorem zF9.lq{k:Pk}{A:Int->Mt.Att}{s q:List Int}(h:zF9 k A s q):q.length=43:=Mt.vH.lq h.sim
theorem zF9.pc{k:Pk}{A:Int->Mt.Att}{s q:List Int}(h:zF9 k A s q):Mt.gt q 0=(Mt.jX s:Nat)/\Mt.gt q 1=(Mt.pV s:Nat)/\Mt.jX s<k.c.length/\Mt.pV s<=k.t.size:=by
 have h0:=Mt.vH.low h.sim 0 (by omega);have h1:=Mt.vH.low h.sim 1 (by omega);have g0:=h.good.pc0;have g1:=h.good.pc1;have g2:=h.good.zNy;have g3:=h.good.pos1;unfold Mt.jX Mt.pV;omega
section
variable {k:Pk} {E:Mt.Env} {A:Int->Mt.Att} {w:World} {steps:Int} {hd kn:List Bool} {zD:Int} {wo:Option Addr} {wc:Nat} {W:List (List Int)}
theorem zIt(hx:Ctx k E A){s q:List Int}(hf:zF9 k A s q)(h:zV k w steps hd zD wo wc W)(hW:W.length<=90000)(ho:(k.c.getD (Mt.jX s) Mt.jY).op=1\/(k.c.getD (Mt.jX s) Mt.jY).op=8\/(k.c.getD (Mt.jX s) Mt.jY).op=9\/(k.c.getD (Mt.jX s) Mt.jY).op=10) :
  Calls Tryz.prog 141 #[.pointer (some ⟨k.g,0,none⟩),.agg (zTS q),.agg (yR (k.c.getD (Mt.jX s) Mt.jY))] w λe w'=>e=.returned (.tuple #[])/\Waits k wo w steps hd zD (zA8 W (Mt.vC k.t q (k.c.getD (Mt.jX s) Mt.jY)).2 (Mt.vC k.t q (k.c.getD (Mt.jX s) Mt.jY)).1) w':=by
 obtain⟨p0,p1,p2,p3⟩:=hf.pc;have hl:=hx.known.len;have h60:=hx.t60;have hi:=hx.known.ok (Mt.jX s) p2;generalize k.c.getD (Mt.jX s) Mt.jY=x at *;rcases ho with o | o | o | o
 ·exact zIr h q hf.lq _ _ p0 p1 (by omega) p3 h60 (by omega) x (by rw[o];rfl) hi.2.2.2.2.2.2.2
 ·have i8:=hi.2.2.2.2.1 (Or.inr (Or.inr o));obtain⟨X,hX⟩:∃X:Nat,x.x=(X:Int):=⟨x.x.toNat,by omega⟩
  have la:=Mt.vH.low hf.sim (2+2*X) (by omega);have lb:=Mt.vH.low hf.sim (2+(2*X+1)) (by omega);have pl:=hf.good.place X (by omega);have ng:=hf.neg X (by omega);by_cases hneg:Mt.gt s (2+2*X)<0
  ·have ea:Mt.gt q (2+2*X)=-1/\Mt.gt q (2+(2*X+1))=-1:=by rcases ng with ng | ng <;> omega
   rw[Mt.zPR k.t q x X o hX ea.1,nK];exact zFT h q hf.lq x X (by rw[o];rfl) (by rw[o];rfl) hX (by omega) (-1) (by omega) ea.1 ea.2
  ·obtain⟨a,ha⟩:∃a:Nat,Mt.gt s (2+2*X)=(a:Int):=⟨(Mt.gt s (2+2*X)).toNat,by omega⟩
   obtain⟨b,hb⟩:∃b:Nat,Mt.gt s (2+(2*X+1))=(b:Int):=⟨(Mt.gt s (2+(2*X+1))).toNat,by omega⟩
   exact zFU h q hf.lq _ _ p0 p1 (by omega) p3 h60 (by omega) x X (by rw[o];rfl) (by rw[o];rfl) hX (by omega) a b (by omega) (by omega) (by omega) (by omega)
 ·exact zHb h q hf.lq _ _ p0 p1 (by omega) p3 h60 (by omega) x (by rw[o];rfl) (by rw[o];rfl) (by rw[o];rfl)
 ·exact zHc h q hf.lq _ _ p0 p1 (by omega) p3 h60 (by omega) x (by rw[o];rfl) (by rw[o];rfl) (by rw[o];rfl) (by rw[o];rfl)
end
def zD8(k:Pk)(E:Mt.Env)(A:Int->Mt.Att)(R:Mt.Res)(m:Nat)(W:List (List Int))(wo1:Option Addr)(w1:World)(gn:Nat)(wr:World):Prop :=
 (1<=gn/\gn<=m/\∃hd kn zD wo' wc' ss qs,zV k wr (k.zA+1-gn) hd zD wo' wc' (W++qs)/\jV k wo1 wo' w1 wr/\Mt.Tab E hd kn/\kn.length=E.c.length*(E.t.size+1)*12/\(0<=zD/\zD<=5000)/\Pairs k A ss qs/\Mt.fD E (gn-1) ss kn zD=R/\qs.length+3*gn<=3*m+1)
 \/ (gn=0/\R.qI=true/\zMv k wo1 w1 wr (W.length+3*m+1))
def zJj(k:Pk)(E:Mt.Env)(A:Int->Mt.Att)(R:Mt.Res)(m:Nat)(W qs:List (List Int))(wo1:Option Addr)(w1:World)(q:List Int)(w':World):Prop :=
 ∃st hd zD wo' wc',zV k w' st hd zD wo' wc' (W++qs)/\jV k wo1 wo' w1 w'/\qs.length<=3*m+1/\((R.qI=true/\st=k.zA+1)\/(R.qI=false/\R.ok=true/\Mt.Sim A R.st q/\st=k.zA-R.n/\zD=R.zD/\Mt.Tab E hd R.kn))
def zMy(k:Pk)(E:Mt.Env)(A:Int->Mt.Att)(r:Mt.Res)(bound:Nat)(W:List (List Int)):Told:=λq' b st' hd' zX W' =>
 (r.qI=true/\st'=k.zA+1/\W'.length<=bound)\/(r.qI=false/\st'=k.zA-r.n/\b=r.ok/\(r.ok=true->Mt.Sim A r.st q')/\zX=r.zD/\Mt.Tab E hd' r.kn/\W'=W)
section
variable {k:Pk} {E:Mt.Env} {A:Int->Mt.Att} {R:Mt.Res} {m:Nat} {W:List (List Int)} {wo1:Option Addr} {w1:World}
theorem zJk{gw:List (List Int)}{hd:List Bool}{zD:Int}{wo':Option Addr}{wc':Nat}{w':World}(hR:R.qI=true)(h:zV k w' (k.zA+1) hd zD wo' wc' gw)(hs:jV k wo1 wo' w1 w')(hl:gw.length<=W.length+3*m+1):zD8 k E A R m W wo1 w1 0 w' :=
 Or.inr ⟨rfl,hR,hd,zD,wo',wc',gw,h,hs,hl⟩
theorem zJl{ss qs:List (List Int)}{hd kn:List Bool}{zD:Int}{wo':Option Addr}{wc':Nat}{w':World}{n:Nat}{s:List Int}{st:List (List Int)}{kn0:List Bool}{zQU:Int}(hn:n<=m)(h:zV k w' (k.zA+1-n) hd zD wo' wc' (W++qs))(hs:jV k wo1 wo' w1 w')(ht:Mt.Tab E hd kn)(hk:kn.length=E.c.length*(E.t.size+1)*12)(hr:0<=zD/\zD<=5000)(hp:Pairs k A ss qs)
  (hR:Mt.fD E n (s::st) kn0 zQU=R) (hl:∀j,n=j+1->Mt.fD E n (s::st) kn0 zQU=Mt.fD E j ss kn zD) (hq:qs.length+3*n<=3*m+1):zD8 k E A R m W wo1 w1 n w':=by
 cases n with
 | zero =>
  have e:R.qI=true:=by rw[<-hR,Mt.zCm]
  refine zJk e (gw:=W++qs) (by simpa using h) hs (by rw[lM];omega)
 | succ j=>exact Or.inl ⟨by omega,hn,hd,kn,zD,wo',wc',ss,qs,h,hs,ht,hk,hr,hp,by rw[<-hR,hl j rfl];rfl,hq⟩
theorem zF9.jump{s q:List Int}(hx:Ctx k E A)(h:zF9 k A s q)(v:Int)(h0:0<=v)(h1:v<k.c.length)(e:A v=A (Mt.gt s 0)):zF9 k A (s.set 0 v) (q.set 0 v) :=
 ⟨h.good.fC v h0 h1,h.sim.jump e,h.neg.set 0 v (by omega)⟩
theorem zKv(hx:Ctx k E A){s q:List Int}{ss' qs':List (List Int)}{wo:Option Addr}{w w':World}{hd kn:List Bool}{zD:Int}{b:Bool}{n:Nat}(hf:zF9 k A s q)(hp:Pairs k A ss' qs')(hn:n+1<=m)
  (ht:Mt.Tab E hd (E.zTN s kn zD)) (hk:kn.length=E.c.length*(E.t.size+1)*12) (hr:0<=zD/\zD<=5000) (hD:E.dead s kn=false) (hR:Mt.fD E n (s::ss') kn zD=R) (hq:qs'.length+1+3*(n+1)<=3*m+1) (hs:jV k wo1 wo w1 w)
  (h:zC8 k wo (zMy k E A (Mt.qO E (n-1) (s.set 0 (Mt.gt s 0+1)) (E.zTN s kn zD) (E.zX s kn zD)) ((W++qs').length+3*n+1) (W++qs')) w q (E.ins s) (k.zA+1-n) hd (E.zX s kn zD) (W++qs') b w') :
  (b=true/\zJj k E A R m W qs' wo1 w1 q w')\/(b=false/\∃gn',gn'<n+1/\zD8 k E A R m W wo1 w1 gn' w'):=by
 obtain⟨h2,h12,h11,h1⟩:=h;have hkn:(E.zTN s kn zD).length=E.c.length*(E.t.size+1)*12:=by rw[E.zDx];exact hk
 have hrm:=E.tH s kn zD hr;have hg:Mt.Good E.c.length E.t.size s:=by rw[hx.ec,hx.et];exact hf.good
 have hK:Mt.Known E.c A:=by rw[hx.ec];exact hx.known
 have hpc:((Mt.jX s:Nat):Int)=Mt.gt s 0:=by have:=hf.good.pc0;unfold Mt.jX;omega
 have zRO:=hf.good.pc0;have hi:=hK.ok (Mt.jX s) hg.bO;by_cases o12:(E.ins s).op=12\/(E.ins s).op=13
 ·left;obtain⟨e,wo',wc',hP,hS⟩:=h12 o12;refine⟨e,_,_,_,wo',wc',hP,hs.trans hS,by omega,?_⟩;cases n with
  | zero =>
   left;refine⟨by rw[<-hR,Mt.zCm],by simp⟩
  | succ j =>
   right;have hl:=Mt.zMl E j s ss' kn zD hD o12.symm;rw[hR]at hl;rw[hl];exact⟨rfl,rfl,hf.sim,by dsimp only;omega,rfl,ht⟩
 have n12:(E.ins s).op≠12:=λe=>o12 (Or.inl e)
 have n13:(E.ins s).op≠13:=λe=>o12 (Or.inr e)
 obtain⟨hn1,hru⟩:=Mt.zAI hK hg.bO n13;rw[hpc]at hru;right;by_cases o2:(E.ins s).op=2
 ·obtain⟨e,wo',wc',hP,hS⟩:=h2 o2;have i2:=hi.1 o2;rw[hx.ec]at i2;obtain⟨a1,a2⟩:=hru.2.1 o2;refine⟨e,n,by omega,zJl (by omega) (qs:=(qs'++[q.set 0 (E.ins s).y])++[q.set 0 (E.ins s).x]) (by simpa using hP) (hs.trans hS) ht hkn hrm (Pairs.cons (hf.jump hx _ (by have:=i2.1;rw[<-hx.ec]at this;exact this) (by have:=i2.2.1;rw[<-hx.ec]at this |-;exact this) a1) (Pairs.cons (hf.jump hx _ (by have:=i2.2.2.1;rw[<-hx.ec]at this;exact this) (by have:=i2.2.2.2;rw[<-hx.ec]at this |-;exact this) a2) hp)) hR ?_ (by simp;omega)⟩;rintro j rfl;exact Mt.zIn E j s ss' kn zD hD o2
 by_cases o11:(E.ins s).op=11
 ·obtain⟨e,q',b',st',hd',zX,wo',wc',W',d1,d2,d3,d4⟩:=h11 o11;have i11:=hi.2.2.2.2.2.1 o11;have gs:=hg.fC (Mt.gt s 0+1) (by omega) (by omega);have g1:=Mt.vI E hK.ok (n-1) (n-1) (s.set 0 (Mt.gt s 0+1)) (E.zTN s kn zD) (E.zX s kn zD) (by omega) gs hrm;have k1:=Mt.zEW E A hK (n-1) (n-1) (s.set 0 (Mt.gt s 0+1)) (E.zTN s kn zD) (E.zX s kn zD) (by omega) gs hrm;have k2:=Mt.zJh E hK.ok (n-1) (n-1) (s.set 0 (Mt.gt s 0+1)) (E.zTN s kn zD) (E.zX s kn zD) (by omega) gs hrm (hf.neg.set 0 _ (by omega));have n1:=Mt.tF E (n-1) (s.set 0 (Mt.gt s 0+1)) (E.zTN s kn zD) (E.zX s kn zD);have hls:∀j,n=j+1->_:=λj (_:n=j+1)=>Mt.zMm E j s ss' kn zD hD o11
  have hlen:=hf.good.len;have p0:Mt.gt (s.set 0 (Mt.gt s 0+1)) 0=Mt.gt s 0+1:=Mt.qX _ _ _ (by omega);have pk:∀t:Int,Mt.gt (s.set 0 (Mt.gt s 0+1)) (22+t.toNat)=Mt.gt s (22+t.toNat):=λt=>Mt.zW _ _ _ _ (by omega)
  rcases d2 with ⟨ov,rfl,hW'⟩ | ⟨ov,est,eb,zQV,erm,zRZ,eW⟩
  ·
   have hRo:R.qI=true:=by
    cases n with
    | zero=>rw[<-hR,Mt.zCm]
    | succ j =>
     have:=hls j rfl;rw[show j+1-1=j by omega]at ov;rw[hR]at this;rw[this,if_pos ov]
   refine⟨e,0,by omega,zJk hRo d3 (hs.trans d4) ?_⟩;unfold zA8;rw[lM];rw[lM]at hW';split
   ·simp only[List.length_cons,List.length_nil];omega
   ·simp only[List.length_nil];omega
  ·
   cases n with
   | zero=>rw[show(0:Nat)-1=0 from rfl,Mt.wB]at ov;cases ov
   | succ j =>
    rw[show j+1-1=j by omega]at *;have hls:=hls j rfl;rw[if_neg (by rw[ov];exact Bool.false_ne_true)]at hls;generalize hr0:Mt.qO E j (s.set 0 (Mt.gt s 0+1)) (E.zTN s kn zD) (E.zX s kn zD)=r at *;subst est;subst eb;subst erm;subst eW
    have hfl:(Mt.yU s (E.ins s) r.st r.ok).2=zCW (E.ins s) r.ok:=by
     unfold Mt.yU zCW;split
     ·rfl
     split
     ·rfl
     ·rfl
    have zR0:k.zA-(r.n:Int)=k.zA+1-((r.n+1:Nat):Int):=by omega
    refine⟨e,r.n+1,by omega,?_⟩;have zR1:r.kn.length=E.c.length*(E.t.size+1)*12:=by rw[g1.2.1];exact hkn
    cases hfg:zCW (E.ins s) r.ok with
    | false =>
     rw[hfg,nK,zR0]at d3;rw[hfl,hfg,if_neg Bool.false_ne_true,List.nil_append]at hls;exact Or.inl ⟨by omega,by omega,hd',r.kn,r.zD,wo',wc',ss',qs',d3,hs.trans d4,zRZ,zR1,g1.2.2.1,hp,by rw[show r.n+1-1=r.n by omega,<-hls];exact hR,by omega⟩
    | true =>
     rw[hfg,pY,zR0]at d3;rw[hfl,hfg,if_pos rfl]at hls;have hap:(Mt.yU s (E.ins s) r.st r.ok).2=true:=by rw[hfl,hfg]
     have gd:=Mt.cO hg g1.1 (E.ins s) i11.1 i11.2.1 hap
     have sm:=Mt.zMo (E:=E) (A:=A) (e:=q') hK hg hf.sim o11 g1.1 zQV g1.2.2.2.1 (λhok=>by
      obtain⟨u1,u2,u3⟩:=k1 hok;rw[p0]at u1 u2;exact⟨u1,λt ht=>(u2 t ht).trans (pk t),u3⟩) hap
     have ng:=Mt.zEZ hlen g1.2.2.2.1 hf.neg k2 hap;rw[hx.ec,hx.et]at gd;refine Or.inl ⟨by omega,by omega,hd',r.kn,r.zD,wo',wc',(Mt.yU s (E.ins s) r.st r.ok).1::ss',qs'++[Mt.zCI q (E.ins s) q'],by rw[<-List.append_assoc];exact d3,hs.trans d4,zRZ,zR1,g1.2.2.1,Pairs.cons ⟨gd,sm,ng⟩ hp,by rw[show r.n+1-1=r.n by omega];rw[<-hR,hls];rfl,by simp;omega⟩
 ·obtain⟨e,wo',wc',hP,hS⟩:=h1 o2 o11 n12 n13;refine⟨e,n,by omega,?_⟩;have zR2:=Mt.zOh (t:=E.t) hK hg hf.sim o2 o11 n12 n13;have hok:(Mt.vC k.t q (E.ins s)).2=(Mt.vC E.t s (E.ins s)).2:=by rw[<-hx.et];exact zR2.1
  rw[hok]at hP;cases hfl:(Mt.vC E.t s (E.ins s)).2 with
  | false =>
   rw[hfl,nK]at hP;refine zJl (by omega) hP (hs.trans hS) ht hkn hrm hp hR ?_ (by omega);rintro j rfl;have:=Mt.zJe E j s ss' kn zD hD o2 o11 n12 n13;rw[hfl,if_neg Bool.false_ne_true,List.nil_append]at this;exact this
  | true =>
   rw[hfl,pY]at hP;have gd:=Mt.wC hK.ok hg (t:=E.t) o2 o11 n13 hfl;rw[hx.ec,hx.et]at gd;have ng:=Mt.zJg (t:=E.t) hf.good hf.neg (x:=E.ins s) (λe=>hi.2.2.2.2.1 e);have sm:=zR2.2 hfl
   have gd':Mt.Good k.c.length k.t.size (Mt.vC E.t s (E.ins s)).1:=by
    have e1:E.ins s=k.c.getD (Mt.jX s) Mt.jY:=by unfold Mt.Env.ins;rw[hx.ec]
    rw[e1,hx.et];exact gd
   refine zJl (by omega) (qs:=qs'++[(Mt.vC k.t q (E.ins s)).1]) (by rw[<-List.append_assoc];exact hP) (hs.trans hS) ht hkn hrm (Pairs.cons (s:=(Mt.vC E.t s (E.ins s)).1) ⟨gd',by rw[<-hx.et];exact sm,ng⟩ hp) hR ?_ (by simp;omega);rintro j rfl;have:=Mt.zJe E j s ss' kn zD hD o2 o11 n12 n13;rw[hfl,if_pos rfl]at this;exact this
theorem zKw{wo:Option Addr}{P:Told}{w:World}{q:List Int}{x:Mt.zTG}{steps:Int}{hd:List Bool}{zD:Int}{V:List (List Int)}{b:Bool}{w':World}(h:zC8 k wo P w q x steps hd zD V b w'):∃wo',jV k wo wo' w w':=by
 obtain⟨h2,h12,h11,h1⟩:=h;by_cases o2:x.op=2
 ·obtain⟨_,wo',_,_,hS⟩:=h2 o2;exact⟨wo',hS⟩
 by_cases o12:x.op=12\/x.op=13
 ·obtain⟨_,wo',_,_,hS⟩:=h12 o12;exact⟨wo',hS⟩
 by_cases o11:x.op=11
 ·obtain⟨_,_,_,_,_,_,wo',_,_,_,_,_,hS⟩:=h11 o11;exact⟨wo',hS⟩
 ·obtain⟨_,wo',_,_,hS⟩:=h1 o2 o11 (λe=>o12 (Or.inl e)) (λe=>o12 (Or.inr e));exact⟨wo',hS⟩
end
section
variable {k:Pk} {E:Mt.Env} {A:Int->Mt.Att}
theorem zMz(hx:Ctx k E A){s q:List Int}(hf:zF9 k A s q)(kn:List Bool)(zD:Int):E.dead q kn=E.dead s kn/\E.zTN q kn zD=E.zTN s kn zD/\E.zX q kn zD=E.zX s kn zD:=by
 obtain⟨h1,h2⟩:=Mt.zPM (E:=E) (A:=A) (by rw[hx.ec];exact hx.known) (λp hp=>by rw[hx.ec]at hp |-;exact hx.ar p hp) (by rw[hx.ec,hx.et];exact hf.good) hf.sim;unfold Mt.Env.dead Mt.Env.zTN Mt.Env.zX;rw[h1,h2];exact⟨rfl,rfl,rfl⟩
theorem zMA(hx:Ctx k E A){s q:List Int}(hf:zF9 k A s q){n:Nat}(ih:zQR k E A n){w:World}{hd kn:List Bool}{zD:Int}{wo:Option Addr}{wc:Nat}{V:List (List Int)}(h:zV k w (k.zA+1-n) hd zD wo wc V)(ht:Mt.Tab E hd kn)(hk:kn.length=E.c.length*(E.t.size+1)*12)(hr:0<=zD/\zD<=5000)(hl:V.length+3*n+1<=50000)(hnb:(n:Int)<=k.zA+1) :
  Calls Tryz.prog 115 #[.pointer (some ⟨k.g,0,none⟩),.agg (zTS q)] w λe w'=>∃b,e=.returned (.bool b)/\zC8 k wo (zMy k E A (Mt.qO E (n-1) (s.set 0 (Mt.gt s 0+1)) kn zD) (V.length+3*n+1) V) w q (E.ins s) (k.zA+1-n) hd zD V b w':=by
 obtain⟨p0,p1,p2,p3⟩:=hf.pc;have hcl:=hx.known.len;have h60:=hx.t60;have hi:=hx.known.ok (Mt.jX s) p2;have e1:E.ins s=k.c.getD (Mt.jX s) Mt.jY:=by unfold Mt.Env.ins;rw[hx.ec]
 have hpc:((Mt.jX s:Nat):Int)=Mt.gt s 0:=by have:=hf.good.pc0;unfold Mt.jX;omega
 have zOp:(k.c.getD (Mt.jX s) Mt.jY).op≠13->Mt.Rule A (Mt.jX s:Nat) (k.c.getD (Mt.jX s) Mt.jY)/\Mt.jX s+1<k.c.length:=λh13=>by
  obtain⟨a,b⟩:=Mt.zAI hx.known p2 h13;exact⟨b,a⟩
 have hop:1<=(k.c.getD (Mt.jX s) Mt.jY).op/\(k.c.getD (Mt.jX s) Mt.jY).op<=13:=by
  by_cases h13:(k.c.getD (Mt.jX s) Mt.jY).op=13
  ·omega
  ·have:=(zOp h13).1.2.2.2.2.2.2.2.2.2.2.2.2;omega
 rw[e1];refine zMx h q hf.lq _ _ p0 p1 p2 hcl (by omega) (by omega) _ _ rfl ?_ ?_ ?_ hop ?_ ?_
 ·intro o;have:=((zOp (by omega)).1.2.2.2.1 o).2.2;have:=hi.2.2.1 o;omega
 ·intro o;have:=((zOp (by omega)).1.2.2.2.2.1 o).2.2;omega
 ·intro o;have:=hi.2.2.2.2.1 (by omega);omega
 ·intro z hz ho;exact zIt hx hf hz (by omega) ho
 ·intro z hz ho;obtain⟨hru,hn1⟩:=zOp (by omega);rw[hpc]at hru;have h11:=hru.2.2.2.2.2.2.2.1 ho;have i11:=hi.2.2.2.2.2.1 ho;have gs:=hf.good.fC (Mt.gt s 0+1) (by have:=hf.good.pc0;omega) (by omega)
  have fs:zF9 k A (s.set 0 (Mt.gt s 0+1)) (q.set 0 (Mt.gt s 0+1)):=by
   refine⟨gs,?_,hf.neg.set 0 _ (by omega)⟩;refine Mt.vH.to ?_;rw[h11.1];exact Mt.vH.less hf.sim (λt ht=>ht) (Int.le_refl _)
  refine zHe hz q hf.lq _ _ p0 (by omega) _ ?_ ?_
  ·intro z2 hz2;have:=ih z2 hd kn zD wo wc V _ _ hz2 ht hk hr fs hl hnb;rw[hpc];refine this.mono ?_;rintro e w' ⟨q',b,rfl,hq',hpost⟩;refine⟨q',b,rfl,?_⟩;rcases hpost with ⟨ov,hd',zX,wo',wc',W',a1,a2,a3⟩ | ⟨ov,eb,zQV,hd',wo',wc',a1,a2,a3⟩
   ·exact⟨_,hd',zX,wo',wc',W',hq',a1,a2,by omega,Or.inl ⟨ov,rfl,a3⟩⟩
   ·exact⟨_,hd',_,wo',wc',V,hq',a1,a2,by omega,Or.inr ⟨ov,rfl,eb,zQV,rfl,a3,rfl⟩⟩
  ·simp only[beq_iff_eq,beq_eq_false_iff_ne];omega
end
