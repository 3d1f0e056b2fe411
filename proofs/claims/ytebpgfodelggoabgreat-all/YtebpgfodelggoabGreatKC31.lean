import Derived.Test.YtebpgfodelggoabGreatKC24
import Derived.Test.YtebpgfodelggoabGreatKC18
set_option linter.unusedVariables false
set_option linter.unusedSimpArgs false
namespace Mt
structure vH (a:Att) (s q:Sta):Prop where
 ls:s.length=44
 lq:q.length=43
 low:∀i,i<22->gt q i=gt s i
 notes:∀k∈a.G,gt q (22+k.toNat)=gt s (22+k.toNat)
 marks:∀j:Nat,(j:Int)<a.d->gt q (32+j)=gt s (32+j)
def Sim(A:Int->Att)(s q:Sta):Prop:=vH (A (gt s 0)) s q
theorem vH.zCl{a:Att}{s q:Sta}(h:vH a s q)(i:Nat)(hi:i<22)(v:Int):vH a (s.set i v) (q.set i v):=by
 refine⟨by rw[List.length_set];exact h.ls,by rw[List.length_set];exact h.lq,λj hj=>?_,λk hk=>?_,λj hj=>?_⟩
 ·have h1:=h.ls;have h2:=h.lq
  rw[zBH,zBH];by_cases e:i=j
  ·rw[if_pos ⟨e,by omega⟩,if_pos ⟨e,by omega⟩]
  ·rw[if_neg (by omega),if_neg (by omega)];exact h.low j hj
 ·rw[zW _ _ _ _ (by omega),zW _ _ _ _ (by omega)];exact h.notes k hk
 ·rw[zW _ _ _ _ (by omega),zW _ _ _ _ (by omega)];exact h.marks j hj
theorem vH.note{a:Att}{s q:Sta}(h:vH a s q)(k:Int)(hk:k.toNat<10)(hG:∀z∈a.G,0<=z/\z<10)(v:Int):vH ⟨k::a.G,a.d,a.y,a.B⟩ (s.set (22+k.toNat) v) (q.set (22+k.toNat) v):=by
 have h1:=h.ls;have h2:=h.lq
 refine⟨by rw[List.length_set];exact h.ls,by rw[List.length_set];exact h.lq,λj hj=>?_,λz hz=>?_,λj hj=>?_⟩
 ·rw[zW _ _ _ _ (by omega),zW _ _ _ _ (by omega)];exact h.low j hj
 ·rw[zBH,zBH];by_cases e:k.toNat=z.toNat
  ·rw[if_pos ⟨by omega,by omega⟩,if_pos ⟨by omega,by omega⟩]
  ·rw[if_neg (by omega),if_neg (by omega)];rcases List.mem_cons.1 hz with rfl | hz
   ·exact absurd rfl e
   ·exact h.notes z hz
 ·rw[zW _ _ _ _ (by omega),zW _ _ _ _ (by omega)];exact h.marks j hj
theorem vH.mark{a:Att}{s q:Sta}(h:vH a s q)(x:Int)(hx:x=a.d)(h0:0<=x)(h11:x<11)(hG:∀z∈a.G,0<=z/\z<10)(v:Int):vH ⟨a.G,a.d+1,a.y,a.B⟩ (s.set (32+x.toNat) v) (q.set (32+x.toNat) v):=by
 have h1:=h.ls;have h2:=h.lq
 refine⟨by rw[List.length_set];exact h.ls,by rw[List.length_set];exact h.lq,λj hj=>?_,λz hz=>?_,λj hj=>?_⟩
 ·rw[zW _ _ _ _ (by omega),zW _ _ _ _ (by omega)];exact h.low j hj
 ·have:=hG z hz;rw[zW _ _ _ _ (by omega),zW _ _ _ _ (by omega)];exact h.notes z hz
 ·rw[zBH,zBH];by_cases e:x.toNat=j
  ·rw[if_pos ⟨by omega,by omega⟩,if_pos ⟨by omega,by omega⟩]
  ·rw[if_neg (by omega),if_neg (by omega)];exact h.marks j (by dsimp only at hj;omega)
theorem vH.less{a b:Att}{s q:Sta}(h:vH a s q)(hG:∀k∈b.G,k∈a.G)(hd:b.d<=a.d):vH b s q :=
 ⟨h.ls,h.lq,h.low,λk hk=>h.notes k (hG k hk),λj hj=>h.marks j (by omega)⟩
theorem vH.to{A:Int->Att}{s q:Sta}{v:Int}(h:vH (A v) s q):Sim A (s.set 0 v) (q.set 0 v):=by
 have e:gt (s.set 0 v) 0=v:=qX _ _ _ (by have:=h.ls;omega);show vH (A (gt (s.set 0 v) 0)) _ _;rw[e];exact h.zCl 0 (by omega) v
theorem Sim.jump{A:Int->Att}{s q:Sta}{v:Int}(h:Sim A s q)(e:A v=A (gt s 0)):Sim A (s.set 0 v) (q.set 0 v):=by
 refine vH.to ?_;rw[e];exact h
theorem Sim.jX{A:Int->Att}{s q:Sta}(h:Sim A s q):jX q=jX s:=by unfold Mt.jX;rw[vH.low h 0 (by omega)]
theorem Sim.pV{A:Int->Att}{s q:Sta}(h:Sim A s q):pV q=pV s:=by unfold Mt.pV;rw[vH.low h 1 (by omega)]
theorem zMk{a:Att}(t:ByteArray){s q:Sta}(h:vH a s q)(k:Int)(h0:0<=k)(h9:k<10):(tZ t q k).2=(tZ t s k).2/\((tZ t s k).2=true->vH a (tZ t s k).1 (tZ t q k).1/\gt (tZ t s k).1 0=gt s 0+1):=by
 have e1:=h.low (2+(2*k).toNat) (by omega);have e2:=h.low (2+(2*k+1).toNat) (by omega);have e3:=h.low 1 (by omega);have e4:=h.low 0 (by omega);unfold tZ;rw[e1,e2,e3,e4];split
 ·exact⟨rfl,λe=>by cases e⟩
 split
 ·exact⟨rfl,λe=>by cases e⟩
 ·refine⟨rfl,λ_=>⟨(h.zCl 1 (by omega) _).zCl 0 (by omega) _,?_⟩⟩;have:=h.ls;exact qX _ _ _ (by rw[List.length_set];omega)
theorem zAI{c:List zTG}{A:Int->Att}(hK:Known c A){q:Nat}(hq:q<c.length)(h13:(c.getD q jY).op≠13):q+1<c.length/\Rule A q (c.getD q jY):=by
 have h1:q+1<c.length:=by
  rcases Nat.lt_or_ge (q+1) c.length with h | h
  ·exact h
  ·exfalso;have e:q=c.length-1:=by omega
   rw[e]at h13;exact h13 hK.last
 exact⟨h1,hK.rule q h1⟩
theorem zOh{c:List zTG}{A:Int->Att}{t:ByteArray}{s q:Sta}(hK:Known c A)(hg:Good c.length t.size s)(h:Sim A s q)(h2:(c.getD (jX s) jY).op≠2)(h11:(c.getD (jX s) jY).op≠11)(h12:(c.getD (jX s) jY).op≠12)(h13:(c.getD (jX s) jY).op≠13) :
  (vC t q (c.getD (jX s) jY)).2=(vC t s (c.getD (jX s) jY)).2/\((vC t s (c.getD (jX s) jY)).2=true->Sim A (vC t s (c.getD (jX s) jY)).1 (vC t q (c.getD (jX s) jY)).1):=by
 obtain⟨hn,hr⟩:=zAI hK hg.bO h13;have hi:=hK.ok (jX s) hg.bO;have hpc:((jX s:Nat):Int)=gt s 0:=by have:=hg.pc0;unfold jX;omega
 rw[hpc]at hr;generalize c.getD (jX s) jY=x at *;obtain⟨r1,r2,r3,r4,r5,r6,r7,r11,r12,rB,rd,rG,ro⟩:=hr;have e0:=vH.low h 0 (by omega);have e1:=vH.low h 1 (by omega);unfold vC;by_cases o1:x.op=1
 ·rw[if_pos o1,if_pos o1];dsimp only;rw[e0,e1];refine⟨rfl,λ_=>Sim.jump (s:=s.set 1 _) ?_ ?_⟩
  ·have:Sim A (s.set 1 (gt s 1+1)) (q.set 1 (gt s 1+1)):=by
    show vH _ _ _;rw[zW _ _ _ _ (by omega)];exact vH.zCl h 1 (by omega) _
   exact this
  ·rw[zW _ _ _ _ (by omega)];exact r1 (by omega)
 rw[if_neg o1,if_neg o1];by_cases o3:x.op=3
 ·rw[if_pos o3,if_pos o3];exact⟨rfl,λ_=>Sim.jump h (r3 o3)⟩
 rw[if_neg o3,if_neg o3];by_cases o4:x.op=4
 ·rw[if_pos o4,if_pos o4];dsimp only;rw[e0,e1];obtain⟨a1,a2,a3⟩:=r4 o4;have i4:=hi.2.2.1 o4;refine⟨rfl,λ_=>vH.to ?_⟩;rw[a2];exact vH.mark h x.x a1 (by omega) a3 rG _
 rw[if_neg o4,if_neg o4];by_cases o5:x.op=5
 ·rw[if_pos o5,if_pos o5];dsimp only;obtain⟨a1,a2,a3,a4⟩:=r5 o5;rw[e1,vH.marks h x.y.toNat (by omega)];refine⟨rfl,λ_=>vH.to ?_⟩;rw[a1];exact vH.less h (λk hk=>hk) (by dsimp only;omega)
 rw[if_neg o5,if_neg o5];by_cases o6:x.op=6
 ·rw[if_pos o6,if_pos o6];dsimp only;rw[e0,e1];obtain⟨a1,a2⟩:=r6 o6;have i6:=hi.2.2.2.2.1 (.inl o6);refine⟨rfl,λ_=>vH.to ?_⟩;rw[a1];exact vH.note h x.x (by omega) rG _
 rw[if_neg o6,if_neg o6];by_cases o7:x.op=7
 ·rw[if_pos o7,if_pos o7];dsimp only;rw[e0,e1];obtain⟨g,a1,a2⟩:=r7 o7;have i6:=hi.2.2.2.2.1 (.inr (.inl o7));have en:=vH.notes h x.x (by rw[a1];exact List.mem_cons_self ..);rw[en];refine⟨rfl,λ_=>vH.to ?_⟩;rw[a2];exact vH.less ((vH.zCl h (2+(2*x.x).toNat) (by omega) _).zCl (2+(2*x.x+1).toNat) (by omega) _) (λk hk=>by rw[a1];exact List.mem_cons_of_mem _ hk) (by dsimp only;omega)
 rw[if_neg o7,if_neg o7];by_cases o8:x.op=8
 ·rw[if_pos o8,if_pos o8];have i6:=hi.2.2.2.2.1 (.inr (.inr o8));have hb:=zMk t (show vH (A (gt s 0)) s q from h) x.x (by omega) (by omega);refine⟨hb.1,λhk=>?_⟩;obtain⟨b1,b2⟩:=hb.2 hk;show vH (A (gt _ 0)) _ _;rw[b2,r1 (by omega)];exact b1
 rw[if_neg o8,if_neg o8];by_cases o9:x.op=9
 ·rw[if_pos o9,if_pos o9];dsimp only;rw[e0,e1];exact⟨rfl,λ_=>Sim.jump h (r1 (by omega))⟩
 rw[if_neg o9,if_neg o9];by_cases o10:x.op=10
 ·rw[if_pos o10,if_pos o10];dsimp only;rw[e0,e1];exact⟨rfl,λ_=>Sim.jump h (r1 (by omega))⟩
 ·exfalso;omega
theorem zPM{E:Env}{A:Int->Att}{s q:Sta}(hK:Known E.c A)(har:∀p,p<E.c.length->E.ar.getD p 0=jI E.c p)(hg:Good E.c.length E.t.size s)(h:Sim A s q):E.key q=E.key s/\E.isIn q=E.isIn s:=by
 unfold Env.key Env.isIn;rw[h.jX,h.pV];refine⟨?_,rfl⟩;unfold keyOf;congr 1;unfold lev kS;refine List.countP_congr (λj hj=>?_);rw[List.mem_range]at hj;have hpc:((jX s:Nat):Int)=gt s 0:=by have:=hg.pc0;unfold jX;omega
 have hd:=hK.loops (jX s) hg.bO;rw[hpc]at hd;rw[har _ hg.bO]at hj;rw[vH.low h 1 (by omega),vH.marks h j (by omega)]
def fD(E:Env):Nat->List Sta->List Bool->Int->Res
 | n,[],kn,zD=>⟨[],false,n,kn,zD,false⟩
 | n,s::st,kn,zD=>if(qO E n s kn zD).ok||(qO E n s kn zD).qI then qO E n s kn zD else fD E (qO E n s kn zD).n st (qO E n s kn zD).kn (qO E n s kn zD).zD
theorem zCm(E:Env)(s:Sta)(st:List Sta)(kn:List Bool)(zD:Int):fD E 0 (s::st) kn zD=⟨s,false,0,kn,zD,true⟩:=rfl
theorem zKr(E:Env)(n:Nat)(s:Sta)(st:List Sta)(kn:List Bool)(zD:Int)(h:E.dead s kn=true):fD E (n+1) (s::st) kn zD=fD E n st (E.zTN s kn zD) (E.zX s kn zD):=by
 have hl:=fH E n s kn zD;rw[if_pos h]at hl;rw[fD,hl];rfl
theorem zMl(E:Env)(n:Nat)(s:Sta)(st:List Sta)(kn:List Bool)(zD:Int)(h:E.dead s kn=false)(ho:(E.ins s).op=13\/(E.ins s).op=12):fD E (n+1) (s::st) kn zD=⟨s,true,n,E.zTN s kn zD,E.zX s kn zD,false⟩:=by
 have hl:=fH E n s kn zD;rw[if_neg (by rw[h];exact Bool.false_ne_true),if_pos ho]at hl;rw[fD,hl];rfl
theorem zIn(E:Env)(n:Nat)(s:Sta)(st:List Sta)(kn:List Bool)(zD:Int)(h:E.dead s kn=false)(ho:(E.ins s).op=2):fD E (n+1) (s::st) kn zD=fD E n (s.set 0 (E.ins s).x::s.set 0 (E.ins s).y::st) (E.zTN s kn zD) (E.zX s kn zD):=by
 have hl:=fH E n s kn zD;rw[if_neg (by rw[h];exact Bool.false_ne_true),if_neg (by omega),if_pos ho]at hl;rw[fD,hl,fD];dsimp only;generalize qO E n (s.set 0 (E.ins s).x) (E.zTN s kn zD) (E.zX s kn zD)=r;by_cases hr:(r.ok||r.qI)=true
 ·rw[if_pos hr,if_pos hr,if_pos hr]
 ·rw[if_neg hr,if_neg hr,fD]
theorem zJe(E:Env)(n:Nat)(s:Sta)(st:List Sta)(kn:List Bool)(zD:Int)(h:E.dead s kn=false)(h2:(E.ins s).op≠2)(h11:(E.ins s).op≠11)(h12:(E.ins s).op≠12)(h13:(E.ins s).op≠13) :
  fD E (n+1) (s::st) kn zD=fD E n ((if(vC E.t s (E.ins s)).2 then[(vC E.t s (E.ins s)).1]else[])++st) (E.zTN s kn zD) (E.zX s kn zD):=by
 have hl:=fH E n s kn zD;rw[if_neg (by rw[h];exact Bool.false_ne_true),if_neg (by omega),if_neg h2,if_neg h11]at hl;rw[fD,hl];by_cases hr:(vC E.t s (E.ins s)).2=true
 ·rw[if_pos hr,if_pos hr];rfl
 ·rw[if_neg hr,if_neg hr];rfl
theorem zMm(E:Env)(n:Nat)(s:Sta)(st:List Sta)(kn:List Bool)(zD:Int)(h:E.dead s kn=false)(ho:(E.ins s).op=11):fD E (n+1) (s::st) kn zD =
  if(qO E n (s.set 0 (gt s 0+1)) (E.zTN s kn zD) (E.zX s kn zD)).qI then⟨s,false,(qO E n (s.set 0 (gt s 0+1)) (E.zTN s kn zD) (E.zX s kn zD)).n,(qO E n (s.set 0 (gt s 0+1)) (E.zTN s kn zD) (E.zX s kn zD)).kn,(qO E n (s.set 0 (gt s 0+1)) (E.zTN s kn zD) (E.zX s kn zD)).zD,true⟩
  else fD E (qO E n (s.set 0 (gt s 0+1)) (E.zTN s kn zD) (E.zX s kn zD)).n ((if(yU s (E.ins s) (qO E n (s.set 0 (gt s 0+1)) (E.zTN s kn zD) (E.zX s kn zD)).st (qO E n (s.set 0 (gt s 0+1)) (E.zTN s kn zD) (E.zX s kn zD)).ok).2 then[(yU s (E.ins s) (qO E n (s.set 0 (gt s 0+1)) (E.zTN s kn zD) (E.zX s kn zD)).st (qO E n (s.set 0 (gt s 0+1)) (E.zTN s kn zD) (E.zX s kn zD)).ok).1]else[])++st)
   (qO E n (s.set 0 (gt s 0+1)) (E.zTN s kn zD) (E.zX s kn zD)).kn (qO E n (s.set 0 (gt s 0+1)) (E.zTN s kn zD) (E.zX s kn zD)).zD:=by
 have hl:=fH E n s kn zD;rw[if_neg (by rw[h];exact Bool.false_ne_true),if_neg (by omega),if_neg (by omega),if_pos ho]at hl;rw[fD,hl];clear hl;dsimp only;generalize qO E n (s.set 0 (gt s 0+1)) (E.zTN s kn zD) (E.zX s kn zD)=r;by_cases hr:r.qI=true
 ·rw[if_pos hr,if_pos hr];rfl
 ·rw[if_neg hr,if_neg hr];by_cases hk:(yU s (E.ins s) r.st r.ok).2=true
  ·rw[if_pos hk,if_pos hk];rfl
  ·rw[if_neg hk,if_neg hk];rfl
theorem zMn(E:Env)(n:Nat)(s:Sta)(kn:List Bool)(zD:Int):(fD E n [s] kn zD).ok=(qO E n s kn zD).ok/\(fD E n [s] kn zD).qI=(qO E n s kn zD).qI/\(fD E n [s] kn zD).n=(qO E n s kn zD).n/\(fD E n [s] kn zD).kn=(qO E n s kn zD).kn/\(fD E n [s] kn zD).zD=(qO E n s kn zD).zD/\((qO E n s kn zD).ok=true->(fD E n [s] kn zD).st=(qO E n s kn zD).st):=by
 rw[fD];generalize qO E n s kn zD=r;split
 ·exact⟨rfl,rfl,rfl,rfl,rfl,λ_=>rfl⟩
 ·rename_i hr
  simp only[Bool.or_eq_true,not_or,Bool.not_eq_true]at hr;refine⟨hr.1.symm,hr.2.symm,rfl,rfl,rfl,λe=>?_⟩;rw[hr.1]at e;cases e
theorem zEW(E:Env)(A:Int->Att)(hK:Known E.c A):∀(N n:Nat) (s:Sta) (kn:List Bool) (zD:Int),n<=N->Good E.c.length E.t.size s->0<=zD/\zD<=5000->(qO E n s kn zD).ok=true ->
  (A (gt (qO E n s kn zD).st 0)).y=(A (gt s 0)).y/\(∀k∈(A (gt s 0)).B,gt (qO E n s kn zD).st (22+k.toNat)=gt s (22+k.toNat))/\((E.ins (qO E n s kn zD).st).op=12\/(E.ins (qO E n s kn zD).st).op=13)
 | N,0,s,kn,zD,_,h,hr,ho=>by rw[wB]at ho;cases ho
 | 0,n+1,s,kn,zD,hn,_,_,_=>by omega
 | N+1,n+1,s,kn,zD,hn,h,hrm,ho=>by
  have ih:∀(n:Nat) (s:Sta) (kn:List Bool) (zD:Int),n<=N->Good E.c.length E.t.size s->0<=zD/\zD<=5000->(qO E n s kn zD).ok=true ->
   (A (gt (qO E n s kn zD).st 0)).y=(A (gt s 0)).y/\(∀k∈(A (gt s 0)).B,gt (qO E n s kn zD).st (22+k.toNat)=gt s (22+k.toNat))/\((E.ins (qO E n s kn zD).st).op=12\/(E.ins (qO E n s kn zD).st).op=13):=zEW E A hK N
  have on:∀(n:Nat) (u:Sta) (kn:List Bool) (zD:Int),n<=N->Good E.c.length E.t.size u->0<=zD/\zD<=5000->(qO E n u kn zD).ok=true->(A (gt u 0)).y=(A (gt s 0)).y->(A (gt u 0)).B=(A (gt s 0)).B->(∀k∈(A (gt s 0)).B,gt u (22+k.toNat)=gt s (22+k.toNat)) ->
   (A (gt (qO E n u kn zD).st 0)).y=(A (gt s 0)).y/\(∀k∈(A (gt s 0)).B,gt (qO E n u kn zD).st (22+k.toNat)=gt s (22+k.toNat))/\((E.ins (qO E n u kn zD).st).op=12\/(E.ins (qO E n u kn zD).st).op=13):=λn u kn zD h1 h2 h3 h4 h5 h6 h7=>by
   obtain⟨a,b,c⟩:=ih n u kn zD h1 h2 h3 h4;exact⟨a.trans h5,λk hk=>(b k (by rw[h6];exact hk)).trans (h7 k hk),c⟩
  rw[fH]at ho |-;have hR:=E.tH s kn zD hrm;have hl:=h.len;have hpc:((jX s:Nat):Int)=gt s 0:=by have:=h.pc0;unfold jX;omega
  by_cases hd:E.dead s kn=true
  ·rw[if_pos hd]at ho;cases ho
  rw[if_neg hd]at ho |-;by_cases h13:(E.ins s).op=13\/(E.ins s).op=12
  ·rw[if_pos h13];exact⟨rfl,λ_ _=>rfl,h13.symm⟩
  rw[if_neg h13]at ho |-;have zQP:(E.c.getD (jX s) jY).op≠13:=λe=>h13 (.inl e)
  obtain⟨hn1,hru⟩:=zAI hK h.bO zQP;have hi:=hK.ok (jX s) h.bO;rw[hpc]at hru;have hp0:=h.pc0;have p0:∀v,gt (s.set 0 v) 0=v:=λv=>qX _ _ _ (by omega)
  have pk:∀(v:Int) (k:Int),gt (s.set 0 v) (22+k.toNat)=gt s (22+k.toNat):=λv k=>zW _ _ _ _ (by omega)
  by_cases o2:(E.ins s).op=2
  ·rw[if_pos o2]at ho |-;have i2:=hi.1 o2;obtain⟨a1,a2⟩:=hru.2.1 o2;have g1:=vI E hK.ok N n (s.set 0 (E.ins s).x) (E.zTN s kn zD) (E.zX s kn zD) (by omega) (h.fC _ i2.1 i2.2.1) hR;have n1:=tF E n (s.set 0 (E.ins s).x) (E.zTN s kn zD) (E.zX s kn zD);have k1:=on n (s.set 0 (E.ins s).x) (E.zTN s kn zD) (E.zX s kn zD) (by omega) (h.fC _ i2.1 i2.2.1) hR;dsimp only at ho |-;generalize qO E n (s.set 0 (E.ins s).x) (E.zTN s kn zD) (E.zX s kn zD)=r at *;by_cases hro:(r.ok||r.qI)=true
   ·rw[if_pos hro]at ho |-;exact k1 ho (by rw[p0];exact congrArg Att.y a1) (by rw[p0];exact congrArg Att.B a1) (λk hk=>pk _ k)
   ·rw[if_neg hro]at ho |-;exact on r.n (s.set 0 (E.ins s).y) r.kn r.zD (by omega) (h.fC _ i2.2.2.1 i2.2.2.2) g1.2.2.1 ho (by rw[p0];exact congrArg Att.y a2) (by rw[p0];exact congrArg Att.B a2) (λk hk=>pk _ k)
  rw[if_neg o2]at ho |-;by_cases o11:(E.ins s).op=11
  ·rw[if_pos o11]at ho |-;have i11:=hi.2.2.2.2.2.1 o11;obtain⟨a1,a2,a3,a4⟩:=hru.2.2.2.2.2.2.2.1 o11;have gs:=h.fC (gt s 0+1) (by omega) (by omega);have g1:=vI E hK.ok N n (s.set 0 (gt s 0+1)) (E.zTN s kn zD) (E.zX s kn zD) (by omega) gs hR;have n1:=tF E n (s.set 0 (gt s 0+1)) (E.zTN s kn zD) (E.zX s kn zD);have k1:=ih n (s.set 0 (gt s 0+1)) (E.zTN s kn zD) (E.zX s kn zD) (by omega) gs hR;rw[p0,a1]at k1;dsimp only at ho k1 |-;generalize qO E n (s.set 0 (gt s 0+1)) (E.zTN s kn zD) (E.zX s kn zD)=r at *;by_cases hov:r.qI=true
   ·rw[if_pos hov]at ho;cases ho
   rw[if_neg hov]at ho |-;by_cases hk:(yU s (E.ins s) r.st r.ok).2=true
   ·rw[if_pos hk]at ho |-;have ga:=cO h g1.1 (E.ins s) i11.1 i11.2.1 hk
    have pa:gt (yU s (E.ins s) r.st r.ok).1 0=(E.ins s).y/\∀k∈(A (gt s 0)).G,gt (yU s (E.ins s) r.st r.ok).1 (22+k.toNat)=gt s (22+k.toNat):=by
     unfold yU at hk |-;by_cases x0:(E.ins s).x=0
     ·rw[if_pos x0]at hk |-;refine⟨qX _ _ _ (by rw[g1.2.2.2.1];omega),λk hkk=>?_⟩;dsimp only;rw[zW _ _ _ _ (by omega),(k1 hk).2.1 k hkk,pk]
     rw[if_neg x0]at hk |-;by_cases x1:(E.ins s).x=1
     ·rw[if_pos x1]at hk |-;refine⟨qX _ _ _ (by rw[dS s r.st h.len g1.2.2.2.1];omega),λk hkk=>?_⟩;dsimp only;rw[zW _ _ _ _ (by omega),nQ s r.st h.len g1.2.2.2.1,if_neg (by omega)]
     ·rw[if_neg x1];exact⟨p0 _,λk hkk=>pk _ k⟩
    exact on r.n _ r.kn r.zD (by omega) ga g1.2.2.1 ho (by rw[pa.1];exact congrArg Att.y a2) (by rw[pa.1];exact congrArg Att.B a2) (λk hkk=>pa.2 k (hru.2.2.2.2.2.2.2.2.2.1 k hkk))
   ·rw[if_neg hk]at ho;cases ho
  rw[if_neg o11]at ho |-;by_cases hk:(vC E.t s (E.ins s)).2=true
  ·rw[if_pos hk]at ho |-;have gg:=wC hK.ok h (t:=E.t) o2 o11 zQP hk
   have pa:(A (gt (vC E.t s (E.ins s)).1 0)).y=(A (gt s 0)).y/\(A (gt (vC E.t s (E.ins s)).1 0)).B=(A (gt s 0)).B/\∀k∈(A (gt s 0)).B,gt (vC E.t s (E.ins s)).1 (22+k.toNat)=gt s (22+k.toNat):=by
    have hxe:E.ins s=E.c.getD (jX s) jY:=rfl;rw[<-hxe]at hru hi;generalize E.ins s=x at *;obtain⟨r1,r2,r3,r4,r5,r6,r7,r11,r12,rB,rd,rG,ro⟩:=hru;have q0:∀(i:Nat) (u v:Int),gt ((s.set i u).set 0 v) 0=v:=λi u v=>qX _ _ _ (by rw[List.length_set];omega)
    unfold vC at hk |-;by_cases o1:x.op=1
    ·rw[if_pos o1];dsimp only;rw[q0,r1 (by omega)];exact⟨rfl,rfl,λk hkk=>by rw[zW _ _ _ _ (by omega),zW _ _ _ _ (by omega)]⟩
    rw[if_neg o1]at hk |-;by_cases o3:x.op=3
    ·rw[if_pos o3];dsimp only;rw[p0,r3 o3];exact⟨rfl,rfl,λk hkk=>pk _ k⟩
    rw[if_neg o3]at hk |-;by_cases o4:x.op=4
    ·rw[if_pos o4];dsimp only;rw[q0,(r4 o4).2.1];exact⟨rfl,rfl,λk hkk=>by have:=rG k (rB k hkk);rw[zW _ _ _ _ (by omega),zW _ _ _ _ (by omega)]⟩
    rw[if_neg o4]at hk |-;by_cases o5:x.op=5
    ·rw[if_pos o5];dsimp only;rw[p0,(r5 o5).1];exact⟨rfl,rfl,λk hkk=>pk _ k⟩
    rw[if_neg o5]at hk |-;by_cases o6:x.op=6
    ·rw[if_pos o6];dsimp only;have i6:=hi.2.2.2.2.1 (.inl o6);rw[q0,(r6 o6).1];refine⟨rfl,rfl,λk hkk=>?_⟩;have g1:=rG k (rB k hkk);have g2:x.x≠k:=λe=>(r6 o6).2 (by rw[e];exact rB k hkk)
     rw[zW _ _ _ _ (by omega),zW _ _ _ _ (by omega)]
    rw[if_neg o6]at hk |-;by_cases o7:x.op=7
    ·rw[if_pos o7];dsimp only;have i6:=hi.2.2.2.2.1 (.inr (.inl o7));obtain⟨g,b1,b2⟩:=r7 o7;have:gt (((s.set (2+(2*x.x).toNat) (gt s (22+x.x.toNat))).set (2+(2*x.x+1).toNat) (gt s 1)).set 0 (gt s 0+1)) 0=gt s 0+1:=qX _ _ _ (by rw[List.length_set,List.length_set];omega);rw[this,b2];exact⟨rfl,rfl,λk hkk=>by rw[zW _ _ _ _ (by omega),zW _ _ _ _ (by omega),zW _ _ _ _ (by omega)]⟩
    rw[if_neg o7]at hk |-;by_cases o8:x.op=8
    ·rw[if_pos o8]at hk |-;unfold tZ at hk |-;split at hk
     ·cases hk
     split at hk
     ·cases hk
     rename_i u1 u2
     rw[if_neg u1,if_neg u2];dsimp only;rw[q0,r1 (by omega)];exact⟨rfl,rfl,λk hkk=>by rw[zW _ _ _ _ (by omega),zW _ _ _ _ (by omega)]⟩
    rw[if_neg o8]at hk |-;by_cases o9:x.op=9
    ·rw[if_pos o9];dsimp only;rw[p0,r1 (by omega)];exact⟨rfl,rfl,λk hkk=>pk _ k⟩
    rw[if_neg o9]at hk |-;by_cases o10:x.op=10
    ·rw[if_pos o10];dsimp only;rw[p0,r1 (by omega)];exact⟨rfl,rfl,λk hkk=>pk _ k⟩
    ·exfalso;omega
   exact on n _ _ _ (by omega) gg hR ho pa.1 pa.2.1 pa.2.2
  ·rw[if_neg hk]at ho;cases ho
def zA2(q e:Sta):Sta:=q.take 2++((e.drop 2).take 30++q.drop 32)
theorem zCH(q e:Sta)(hq:q.length=43)(he:e.length=43):(zA2 q e).length=43:=by simp[zA2,hq,he]
theorem zD1(s r:Sta)(hs:s.length=43)(hr:r.length=43)(j:Nat):gt (zA2 s r) j=if 2<=j/\j<32 then gt r j else gt s j:=by
 unfold zA2 gt;simp only[lH];by_cases h1:j<2
 ·rw[if_neg (by omega),List.getElem?_append_left (by simp;omega),List.getElem?_take_of_lt h1]
 ·rw[List.getElem?_append_right (by simp;omega)];have l1:(s.take 2).length=2:=by simp[hs]
  have l2:((r.drop 2).take 30).length=30:=by simp[hr]
  by_cases h2:j<32
  ·rw[if_pos (by omega),List.getElem?_append_left (by omega),l1,List.getElem?_take_of_lt (by omega),List.getElem?_drop,show 2+(j-2)=j by omega]
  ·rw[if_neg (by omega),List.getElem?_append_right (by omega),l1,l2,List.getElem?_drop,show 32+(j-2-30)=j by omega]
def zCI(q:Sta)(x:zTG)(e:Sta):Sta:=if x.x=0 then e.set 0 x.y else if x.x=1 then(zA2 q e).set 0 x.y else q.set 0 x.y
theorem zMo{E:Env}{A:Int->Att}{s q r e:Sta}{ok:Bool}(hK:Known E.c A)(hg:Good E.c.length E.t.size s)(h:Sim A s q)(ho:(E.ins s).op=11)
  (hr:ok=true->Good E.c.length E.t.size r) (hre:ok=true->Sim A r e) (hrl:r.length=44)
  (hk:ok=true->(A (gt r 0)).y=(A (gt s 0+1)).y/\(∀k∈(A (gt s 0+1)).B,gt r (22+k.toNat)=gt s (22+k.toNat))/\((E.ins r).op=12\/(E.ins r).op=13))
  (hf:(yU s (E.ins s) r ok).2=true):Sim A (yU s (E.ins s) r ok).1 (zCI q (E.ins s) e):=by
 have hpc:((jX s:Nat):Int)=gt s 0:=by have:=hg.pc0;unfold jX;omega
 obtain⟨hn1,hru⟩:=zAI hK hg.bO (show(E.c.getD (jX s) jY).op≠13 by
                                            have:(E.ins s).op≠13:=by omega
                                            exact this)
 rw[hpc]at hru;obtain⟨a1,a2,a3,a4⟩:=hru.2.2.2.2.2.2.2.1 ho
 have hend:ok=true->A (gt r 0)=⟨(A (gt s 0)).G,(A (gt s 0)).d,(E.ins s).y,(A (gt s 0)).G⟩:=λhok=>by
  obtain⟨k1,k2,k3⟩:=hk hok;rw[a1]at k1;dsimp only at k1;have g:=hr hok;have hpr:((jX r:Nat):Int)=gt r 0:=by have:=g.pc0;unfold jX;omega
  rcases Nat.lt_or_ge (jX r+1) E.c.length with zTI | hge
  ·have rr:=hK.rule _ zTI;rw[hpr]at rr
   have h12:(E.c.getD (jX r) jY).op=12:=by
    have:=rr.2.2.2.2.2.2.2.2.2.2.2.2;have k3':(E.c.getD (jX r) jY).op=12\/(E.c.getD (jX r) jY).op=13:=k3;omega
   have y1:=rr.2.2.2.2.2.2.2.2.1 h12
   have ey:gt r 0=(E.ins s).y-1:=by
    rw[k1]at y1;show gt r 0=(E.c.getD (jX s) jY).y-1;omega
   rw[ey];exact a3
  ·exfalso;have hp:=g.bO;have e1:jX r=E.c.length-1:=by omega
   have st:=hK.stop;rw[<-e1,hpr]at st;rw[st]at k1;dsimp only at k1;omega
 unfold yU at hf |-;unfold zCI;by_cases x0:(E.ins s).x=0
 ·rw[if_pos x0]at hf |-;rw[if_pos x0];refine vH.to ?_;have h2:=hre hf;unfold Sim at h2;rw[hend hf]at h2;have a2':A (E.ins s).y=A (gt s 0):=a2;rw[a2'];exact h2.less (λk hk=>hk) (Int.le_refl _)
 rw[if_neg x0]at hf |-;rw[if_neg x0];by_cases x1:(E.ins s).x=1
 ·rw[if_pos x1]at hf |-;rw[if_pos x1];refine vH.to ?_;have a2':A (E.ins s).y=A (gt s 0):=a2;rw[a2'];have h2:=hre hf;have h3:=h2;unfold Sim at h3;rw[hend hf]at h3;obtain⟨k1,k2,k3⟩:=hk hf;rw[a1]at k2;have h1:vH (A (gt s 0)) s q:=h;have gw:=nQ s r h1.ls hrl;have gb:=zD1 q e h1.lq h3.lq;refine⟨dS s r h1.ls hrl,zCH q e h1.lq h3.lq,λi hi=>?_,λk hkk=>?_,λj hj=>?_⟩
  ·rw[gw,gb];by_cases hh:2<=i
   ·rw[if_pos (by omega),if_pos (by omega)];exact h3.low i hi
   ·rw[if_neg (by omega),if_neg (by omega)];exact h1.low i hi
  ·have hR:=hru.2.2.2.2.2.2.2.2.2.2.2.1 k hkk;rw[gw,gb,if_pos (by omega),if_neg (by omega),h3.notes k hkk,k2 k hkk]
  ·rw[gw,gb,if_neg (by omega),if_neg (by omega)];exact h1.marks j hj
 ·rw[if_neg x1]at hf |-;rw[if_neg x1];exact Sim.jump h a2
def nU(p:Int):Sta:=0::p::(nowhere++(List.replicate 10 0++List.replicate 11 (-1)))
theorem zKs(p:Int):(nU p).length=43:=by simp[nU,nowhere]
theorem zMp{c:List zTG}{A:Int->Att}(hK:Known c A)(p:Int):Sim A (kZ p) (nU p):=by
 have e0:gt (kZ p) 0=0:=rfl;unfold Sim;rw[e0,hK.start];refine⟨zAb p,zKs p,λi hi=>?_,λk hk=>by simp at hk,λj hj=>by dsimp only at hj;omega⟩;unfold gt nU kZ;simp only[lH]
 match i with
 | 0=>rfl
 | 1=>rfl
 | i+2 =>
  simp only[List.getElem?_cons_succ];rw[List.getElem?_append_left (by simp[nowhere];omega),List.getElem?_append_left (by simp[nowhere];omega)]
