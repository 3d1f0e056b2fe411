import Derived.Test.YtebpgfodelggoaaGreatC06
import Derived.Laws.Strings
set_option linter.all false
namespace Mt
inductive Lex (p:BA):Int->List zU->Int->Prop
 | nil (i:Int):Lex p i [] i
 | cons {i j:Int} {t:zU} {l:List zU} (h0:0<=i) (h1:i<p.size) (ht:kS p i=(t,0)) (hl:Lex p t.to l j):Lex p i (t::l) j
theorem Lex.app{p i h k l m}(j:Lex p i l h)(g:Lex p h m k):Lex p i (l++m) k:=by
 induction j with
 | nil i=>exact g
 | cons G I J U O=>exact Lex.cons G I J (O g)
theorem Lex.one{p}{i:Int}{t}(h:0<=i)(j:i<p.size)(G:kS p i=(t,0)):Lex p i [t] t.to:=Lex.cons h j G (Lex.nil _)
def Hw:List zU->List zU->Prop
 | _,[]=>True
 | l,t::r=>may l t=0/\jD t=false/\Hw (l++[t]) r
theorem Hw.app:∀{l a b},Hw l a->Hw (l++a) b->Hw l (a++b)
 | l,[],b,_,h=>by simpa using h
 | l,t::r,b,h,g=>⟨h.1,h.2.1,Hw.app h.2.2 (by simpa using g)⟩
theorem zAp{c}{t}{s}(G:Good c.length t.size s)(x)(h:Rq c (zX s) x)(ok:(kW t s x).2=true):gt s 1<=gt (kW t s x).1 1:=by
 have a2:=G.len;have a0:=h.2.2.2.2.1;have key:∀(i:Nat) (v:Int),i≠1->gt (s.set i v) 1=gt s 1:=λi v h=>zQ _ _ _ _ h
 unfold kW at ok |-;by_cases J:x.op=1
 ·rw[lG J];dsimp only;rw[zQ _ _ _ _ (by omega),qD _ _ _ (by omega)];omega
 rw[lC J]at ok |-;by_cases O:x.op=3
 ·rw[lG O];dsimp only;rw[key _ _ (by omega)];exact oL _
 rw[lC O]at ok |-;by_cases U:x.op=4
 ·rw[lG U];dsimp only;rw[zQ _ _ _ _ (by omega),zQ _ _ _ _ (by omega)];exact oL _
 rw[lC U]at ok |-;by_cases W:x.op=5
 ·rw[lG W];dsimp only;rw[key _ _ (by omega)];exact oL _
 rw[lC W]at ok |-;by_cases Y:x.op=6
 ·rw[lG Y];dsimp only;rw[zQ _ _ _ _ (by omega),zQ _ _ _ _ (by omega)];exact oL _
 rw[lC Y]at ok |-;by_cases Z:x.op=7
 ·rw[lG Z];dsimp only;rw[zQ _ _ _ _ (by omega),zQ _ _ _ _ (by omega),zQ _ _ _ _ (by omega)];exact oL _
 rw[lC Z]at ok |-;by_cases j:x.op=8
 ·rw[lG j]at ok |-;have a1:=a0 (.inr (.inr j));have I:=G.place x.x.toNat (by omega);rw[show 2*x.x.toNat=(2*x.x).toNat by omega]at I;rw[show(2*x.x).toNat+1=(2*x.x+1).toNat by omega]at I;unfold bV at ok |-;split
  ·exact oL _
  split
  ·exact oL _
  ·dsimp only;rw[zQ _ _ _ _ (by omega),qD _ _ _ (by omega)];omega
 rw[lC j]at ok |-;split
 ·dsimp only;rw[key _ _ (by omega)];exact oL _
 split
 ·dsimp only;rw[key _ _ (by omega)];exact oL _
 ·dsimp only;rw[key _ _ (by omega)];exact oL _
def Bo(q e:qL):qL:=q.take 2++((e.drop 2).take 30++q.drop 32)
theorem Gh q e(j:q.length=43)(h:e.length=43):(Bo q e).length=43:=by simp[Bo,j,h]
theorem Jl s r(J:s.length=43)(I:r.length=43) h:gt (Bo s r) h=if 2<=h/\h<32 then gt r h else gt s h:=by
 unfold Bo gt;simp only[lH];by_cases G:h<2
 ·rw[lC (by omega),gK (by simp;omega),oK G]
 ·rw[gL (by simp;omega)];have j:(s.take 2).length=2:=by simp[J]
  have O:((r.drop 2).take 30).length=30:=by simp[I]
  by_cases U:h<32
  ·rw[lG (by omega),gK (by omega),j,oK (by omega),sW,show 2+(h-2)=h by omega]
  ·rw[lC (by omega),gL (by omega),j,O,sW,show 32+(h-2-30)=h by omega]
def Dt(q:qL)(x:zT)(e:qL):qL:=if x.x=0 then e.set 0 x.y else if x.x=1 then(Bo q e).set 0 x.y else q.set 0 x.y
theorem XD{E:Env}{A}{s q r e}{ok}(a2:Known E.c A)(b0:Good E.c.length E.t.size s)(a8:FV A s q)(c4:(E.ins s).op=11)
  (c6:ok=true->Good E.c.length E.t.size r) (b4:ok=true->FV A r e) (b5:r.length=44)
  (U:ok=true->(A (gt r 0)).y=(A (gt s 0+1)).y/\(∀k∈(A (gt s 0+1)).B,gt r (22+k.toNat)=gt s (22+k.toNat))/\((E.ins r).op=12\/(E.ins r).op=13))
  (h:(jG s (E.ins s) r ok).2=true):FV A (jG s (E.ins s) r ok).1 (Dt q (E.ins s) e):=by
 have c5:((zX s:Nat):Int)=gt s 0:=by have:=b0.Ai;unfold zX;omega
 obtain⟨d3,a4⟩:=fC a2 b0.yS (show(E.c.getD (zX s) kC).op≠13 by
                                            have:(E.ins s).op≠13:=by omega
                                            exact this)
 rw[c5]at a4;obtain⟨a7,Z,b8,c9⟩:=a4.2.2.2.2.2.2.2.1 c4
 have a9:ok=true->A (gt r 0)=⟨(A (gt s 0)).G,(A (gt s 0)).d,(E.ins s).y,(A (gt s 0)).G⟩:=λb2=>by
  obtain⟨J,a5,b6⟩:=U b2;rw[a7]at J;dsimp only at J;have g:=c6 b2;have b3:((zX r:Nat):Int)=gt r 0:=by have:=g.Ai;unfold zX;omega
  rcases wZ (zX r+1) E.c.length with c3 | d1
  ·have a6:=a2.rule _ c3;rw[b3]at a6
   have c1:(E.c.getD (zX r) kC).op=12:=by
    have:=a6.2.2.2.2.2.2.2.2.2.2.2.2;have d5:(E.c.getD (zX r) kC).op=12\/(E.c.getD (zX r) kC).op=13:=b6;omega
   have c8:=a6.2.2.2.2.2.2.2.2.1 c1
   have c0:gt r 0=(E.ins s).y-1:=by
    rw[J]at c8;show gt r 0=(E.c.getD (zX s) kC).y-1;omega
   rw[c0];exact b8
  ·exfalso;have d4:=g.yS;have b9:zX r=E.c.length-1:=by omega
   have b7:=a2.stop;rw[<-b9,b3]at b7;rw[b7]at J;dsimp only at J;omega
 unfold jG at h |-;unfold Dt;by_cases W:(E.ins s).x=0
 ·rw[lG W]at h |-;rw[lG W];refine vF.to ?_;have O:=b4 h;unfold FV at O;rw[a9 h]at O;have a0:A (E.ins s).y=A (gt s 0):=Z;rw[a0];exact O.less (λk U=>U) (oL _)
 rw[lC W]at h |-;rw[lC W];by_cases Y:(E.ins s).x=1
 ·rw[lG Y]at h |-;rw[lG Y];refine vF.to ?_;have a0:A (E.ins s).y=A (gt s 0):=Z;rw[a0];have O:=b4 h;have I:=O;unfold FV at I;rw[a9 h]at I;obtain⟨J,a5,b6⟩:=U h;rw[a7]at a5;have j:=a8;have gw:=bC s r j.ls b5;have a1:=Jl q e j.lq I.lq;refine⟨pF s r j.ls b5,Gh q e j.lq I.lq,λi b1=>?_,λk a3=>?_,λc7 c2=>?_⟩
  ·rw[gw,a1];by_cases d2:2<=i
   ·rw[lG (by omega),lG (by omega)];exact I.low i b1
   ·rw[lC (by omega),lC (by omega)];exact j.low i b1
  ·have d0:=a4.2.2.2.2.2.2.2.2.2.2.2.1 k a3;rw[gw,a1,lG (by omega),lC (by omega),I.notes k a3,a5 k a3]
  ·rw[gw,a1,lC (by omega),lC (by omega)];exact j.marks c7 c2
 ·rw[lC Y]at h |-;rw[lC Y];exact FV.jump a8 Z
def lg(p:Int):qL:=0::p::(nowhere++(List.replicate 10 0++List.replicate 11 (-1)))
theorem Uq p:(lg p).length=43:=by simp[lg,nowhere]
theorem XE{c A}(j:Known c A) p:FV A (kL p) (lg p):=by
 have h:gt (kL p) 0=0:=rfl;unfold FV;rw[h,j.start];refine⟨Aj p,Uq p,λi J=>?_,λk I=>by simp at I,λO G=>by dsimp only at G;omega⟩;unfold gt lg kL;simp only[lH]
 match i with
 | 0=>rfl
 | 1=>rfl
 | i+2 =>
  simp only[gI];rw[gK (by simp[nowhere];omega),gK (by simp[nowhere];omega)]
def Env.vk(E:Env)(p:Nat):Nat:=(E.ar.getD p 0).toNat
def Env.base(E:Env):Nat->Nat
 | 0=>0
 | p+1=>E.base p+if E.qU.getD p false=true then(E.t.size+1)*(E.vk p+1)else 0
theorem Env.NP(E:Env) p(h:E.qU.getD p false=true):E.base (p+1)=E.base p+(E.t.size+1)*(E.vk p+1):=by rw[Env.base,lG h]
theorem Env.XF(E:Env) p(h:E.qU.getD p false=false):E.base (p+1)=E.base p:=by rw[Env.base,lC (by rw[h];exact oF)];rfl
theorem Env.Bp(E:Env) p:∀d,E.base p<=E.base (p+d)
 | 0=>lF _
 | d+1=>by
  have:=Env.Bp E p d;rw[<-uF,Env.base];omega
theorem Env.Ko(E:Env)(h:∀p,E.vk p<=11):∀p,E.base p<=p*((E.t.size+1)*12)
 | 0=>by simp[Env.base]
 | p+1=>by
  have j:=Env.Ko E h p;have:=wT (E.t.size+1) (show E.vk p+1<=12 by have:=h p;omega);have e:(p+1)*((E.t.size+1)*12)=p*((E.t.size+1)*12)+(E.t.size+1)*12:=by rw[oV,iY]
  rw[Env.base,e];generalize (E.t.size+1)*(E.vk p+1)=u at *;generalize p*((E.t.size+1)*12)=v at *;split <;> omega
def Env.slot(E:Env)(p pos l:Nat):Nat:=E.base p+l*(E.t.size+1)+pos
theorem Env.Kq(E:Env) p h l(j:E.qU.getD p false=true)(I:h<=E.t.size)(G:l<=E.vk p):E.slot p h l<E.base (p+1):=by
 rw[E.NP p j];unfold Env.slot;have:=oO (E.t.size+1) G;have e:(E.t.size+1)*(E.vk p+1)=E.vk p*(E.t.size+1)+(E.t.size+1):=by rw[Nat.mul_comm,oV,iY]
 rw[e];omega
theorem Lf{m a b c d:Nat}(I:b<m)(J:d<m)(j:a*m+b=c*m+d):a=c/\b=d:=by
 have h:(a*m+b)/m=a:=by rw[Nat.mul_comm,Nat.mul_add_div (by omega),Nat.div_eq_of_lt I,wE]
 have G:(c*m+d)/m=c:=by rw[Nat.mul_comm,Nat.mul_add_div (by omega),Nat.div_eq_of_lt J,wE]
 rw[j,G]at h;subst h;exact⟨rfl,by omega⟩
theorem Env.zAs(E:Env){p G l h I j}(Y:E.qU.getD p false=true)(a2:G<=E.t.size)(a0:l<=E.vk p)(Z:E.qU.getD h false=true)(a3:I<=E.t.size)(a1:j<=E.vk h)(J:E.slot p G l=E.slot h I j):p=h/\G=I/\l=j:=by
 have O:=E.Kq p G l Y a2 a0;have U:=E.Kq h I j Z a3 a1
 have e:p=h:=by
  rcases Nat.lt_trichotomy p h with a5 | W | a4
  ·exfalso;have:=E.Bp (p+1) (h-(p+1));rw[show p+1+(h-(p+1))=h by omega]at this;unfold Env.slot at J O U;omega
  ·exact W
  ·exfalso;have:=E.Bp (h+1) (p-(h+1));rw[show h+1+(p-(h+1))=p by omega]at this;unfold Env.slot at J O U;omega
 subst e;unfold Env.slot at J;have:=Lf (m:=E.t.size+1) (a:=l) (b:=G) (c:=j) (d:=I) (by omega) (by omega) (by omega);exact⟨rfl,this.2,this.1⟩
theorem key_inj{T p h l O j G}(Z:h<=T)(W:l<12)(a0:j<=T)(Y:G<12)(U:(p*(T+1)+h)*12+l=(O*(T+1)+j)*12+G):p=O/\h=j/\l=G:=by
 have I:=Lf W Y U;have J:=Lf (show h<T+1 by omega) (show j<T+1 by omega) I.1;exact⟨J.1,J.2,I.2⟩
structure Tab (E:Env) (hd kn:List Bool):Prop where
 len:hd.length=E.base E.c.length
 same:∀p pos l,p<E.c.length->E.qU.getD p false=true->pos<=E.t.size->l<=E.vk p->hd.getD (E.slot p pos l) false=kn.getD ((p*(E.t.size+1)+pos)*12+l) false
theorem Cb(l:List Bool) i h v:(l.set i v).getD h false=if i=h/\i<l.length then v else l.getD h false:=by
 simp only[lH,wQ];by_cases j:i=h
 ·subst j;by_cases G:i<l.length
  ·simp[G]
  ·simp[G]
 ·simp[j]
theorem Tab.set{E U kn}(j:Tab E U kn)(a4:kn.length=E.c.length*(E.t.size+1)*12)(G:∀p,E.vk p<=11) p h l(a8:p<E.c.length)(W:E.qU.getD p false=true)(I:h<=E.t.size)(Z:l<=E.vk p):
  Tab E (U.set (E.slot p h l) true) (kn.set ((p*(E.t.size+1)+h)*12+l) true):=by
 have a9:=E.Kq p h l W I Z;have a6:=E.Bp (p+1) (E.c.length-(p+1));rw[show p+1+(E.c.length-(p+1))=E.c.length by omega]at a6
 have a7:(p*(E.t.size+1)+h)*12+l<kn.length:=by
  rw[a4];have a3:(p+1)*(E.t.size+1)<=E.c.length*(E.t.size+1):=oO _ (by omega);have:=G p;rw[oV]at a3;omega
 refine⟨by rw[gY];exact j.len,λO a2 a1 a5 Y J a0=>?_⟩;rw[Cb,Cb];by_cases e:p=O/\h=a2/\l=a1
 ·obtain⟨rfl,rfl,rfl⟩:=e;rw[lG ⟨rfl,by rw[j.len];omega⟩,lG ⟨rfl,a7⟩]
 ·rw[lC (λx=>e (E.zAs W I Z Y J a0 x.1)),lC (λx=>e (key_inj I (by have:=G p;omega) J (by have:=G O;omega) x.1))];exact j.same O a2 a1 a5 Y J a0
theorem Tab.start E n:Tab E (List.replicate (E.base E.c.length) false) (List.replicate n false):=by
 refine⟨by simp,λp J l G h I j=>?_⟩;rw[lH,lH,oJ,oJ];split <;> split <;> rfl
theorem XG(E:Env)(q)(h:E.vk (zX q)<=11):E.key q=(zX q*(E.t.size+1)+vE q)*12+kR q (E.vk (zX q)):=by
 unfold Env.key keyOf ZW;have e:(E.ar.getD (zX q) 0).toNat=E.vk (zX q):=rfl;rw[e,iW (by omega)]
theorem Tab.ask{E I kn}(O:Tab E I kn)(a2:kn.length=E.c.length*(E.t.size+1)*12)(Z:∀p,E.vk p<=11) q zA(a1:zX q<E.c.length)(Y:vE q<=E.t.size)(h:E.isIn q=true):
  I.getD (E.slot (zX q) (vE q) (kR q (E.vk (zX q)))) false=E.dead q kn/\E.slot (zX q) (vE q) (kR q (E.vk (zX q)))<I.length
  /\ (E.dead q kn=true->E.qK q kn zA=kn/\E.zG q kn zA=zA)
  /\ (E.dead q kn=false->(0<zA->Tab E (I.set (E.slot (zX q) (vE q) (kR q (E.vk (zX q)))) true) (E.qK q kn zA)/\E.zG q kn zA=zA-1)/\(¬0<zA->E.qK q kn zA=kn/\E.zG q kn zA=zA)):=by
 have a0:=XG E q (Z _);have W:=BN q (E.vk (zX q));have U:=h;have a3:=O.same (zX q) (vE q) _ a1 U Y W;have a5:=E.Kq (zX q) (vE q) _ U Y W;have a4:=E.Bp (zX q+1) (E.c.length-(zX q+1));rw[show zX q+1+(E.c.length-(zX q+1))=E.c.length by omega]at a4;have J:E.dead q kn=kn.getD (E.key q) false:=by unfold Env.dead;rw[lG h]
 refine⟨by rw[J,a0];exact a3,by rw[O.len];omega,λe=>?_,λe=>⟨λG=>?_,λG=>?_⟩⟩
 ·rw[J]at e;unfold Env.qK Env.zG yV qB;rw[lG h,lG h,lG e,lG e];exact⟨rfl,rfl⟩
 ·rw[J]at e;have j:¬kn.getD (E.key q) false=true:=by rw[e];exact oF
  unfold Env.qK Env.zG yV qB;rw[lG h,lG h,lC j,lC j,lG G,lG G];refine⟨?_,rfl⟩;rw[a0];exact O.set a2 Z _ _ _ a1 U Y W
 ·rw[J]at e;have j:¬kn.getD (E.key q) false=true:=by rw[e];exact oF
  unfold Env.qK Env.zG yV qB;rw[lG h,lG h,lC j,lC j,lC G,lC G];exact⟨rfl,rfl⟩
theorem Env.zAt(E:Env) q kn zA(j:E.isIn q=false):E.dead q kn=false/\E.qK q kn zA=kn/\E.zG q kn zA=zA:=by
 have h:¬E.isIn q=true:=by rw[j];exact oF
 unfold Env.dead Env.qK Env.zG;rw[lC h,lC h,lC h];exact⟨rfl,rfl,rfl⟩
def HV(t:BA)(pos a n:Nat):Bool:=(List.range n).all λi=>Rf t (pos+i)==Rf t (a+i)
theorem NQ t h a n:HV t h a (n+1)=(HV t h a n&&(Rf t (h+n)==Rf t (a+n))):=by
 unfold HV;rw[rE,List.all_append];simp
theorem NR t j a:∀n d,HV t j a n=false->HV t j a (n+d)=false
 | n,0,h=>h
 | n,d+1,h=>by rw[<-uF,NQ,NR t j a n d h];rfl
theorem Ur{a b:UInt8}(h:(a.toNat:Int)=b.toNat):a=b:=UInt8.toNat_inj.1 (by omega)
theorem HY t k(h:k<t.size):Rf t k=((t[k]'h).toNat:Int):=by unfold Rf;rw[dif_pos h]
theorem toList_data(bs:BA):bs.toList=bs.data.toList:=by first | exact Go.ByteArray.toList_eq bs | exact ByteArray.toList_eq bs
theorem Ak(t:BA)(a b i:Nat)(j:a+i<b)(G:b<=t.size):(t.extract a b).toList[i]?=some (t[a+i]'(by omega)):=by
 have I:(t.extract a b).size=b-a:=by rw[ByteArray.size_extract];omega
 have h:i<(t.extract a b).size:=by omega
 rw[toList_data,lN (by rw[Array.length_toList];exact h)];have:=ByteArray.getElem_extract (b:=t) (start:=a) (stop:=b) (i:=i) h;rw[<-this];rfl
theorem Jm(t:BA) a b(j:b<=t.size):(t.extract a b).toList.length=b-a:=by
 have h:(t.extract a b).size=b-a:=by rw[ByteArray.size_extract];omega
 rw[toList_data,Array.length_toList];exact h
theorem Pw t h a n(G:a+n<=t.size)(I:h+n<=t.size):HV t h a n=((t.extract a (a+n)).toList==(t.extract h (h+n)).toList):=by
 rw[uE,oU];unfold HV;rw[iO];constructor
 ·intro j;refine iH (λi=>?_);by_cases J:i<n
  ·rw[Ak t a _ i (by omega) G,Ak t h _ i (by omega) I];have:=j i (wK.2 J);rw[oU,HY t _ (by omega),HY t _ (by omega)]at this;rw[Ur this]
  ·rw[gQ (by rw[Jm t a _ G];omega),gQ (by rw[Jm t h _ I];omega)]
 ·intro j i J;rw[wK]at J;rw[oU,HY t _ (by omega),HY t _ (by omega)];have e:=rJ (λl=>l[i]?) j;try dsimp only at e
  rw[Ak t a _ i (by omega) G,Ak t h _ i (by omega) I]at e;injection e with e;rw[e]
def Du(s:qL):Prop:=∀k,k<10->(gt s (2+2*k)=-1/\gt s (2+(2*k+1))=-1)\/0<=gt s (2+2*k)
theorem Du.of{s u}(G:Du s)(e:∀k,k<10->(gt u (2+2*k)=gt s (2+2*k)/\gt u (2+(2*k+1))=gt s (2+(2*k+1)))\/0<=gt u (2+2*k)):Du u:=λk j=>by
 rcases e k j with h | h
 ·rw[h.1,h.2];exact G k j
 ·exact .inr h
theorem Du.set{s}(h:Du s) i v(j:i<2\/22<=i):Du (s.set i v):=h.of λk G=>.inl ⟨zQ _ _ _ _ (by omega),zQ _ _ _ _ (by omega)⟩
theorem RH p:Du (kL p):=λk G=>by
 left
 have key:∀h,h<20->gt (kL p) (2+h)=-1:=λh j=>by
  unfold gt kL nowhere;rw[lH,show 2+h=h+1+1 by omega,gI,gI,gK (by simp;omega),oJ,lG (by omega)];rfl
 exact⟨key _ (by omega),key _ (by omega)⟩
theorem RI{L T t s x}(G:Good L T s)(h:Du s)(Z:x.op=6\/x.op=7\/x.op=8->0<=x.x/\x.x<10):Du (kW t s x).1:=by
 unfold kW;by_cases I:x.op=1
 ·rw[lG I];exact(h.set 1 _ (by omega)).set 0 _ (by omega)
 rw[lC I];by_cases J:x.op=3
 ·rw[lG J];exact h.set 0 _ (by omega)
 rw[lC J];by_cases O:x.op=4
 ·rw[lG O];exact(h.set _ _ (by omega)).set 0 _ (by omega)
 rw[lC O];by_cases U:x.op=5
 ·rw[lG U];exact h.set 0 _ (by omega)
 rw[lC U];by_cases W:x.op=6
 ·rw[lG W];exact(h.set _ _ (by omega)).set 0 _ (by omega)
 rw[lC W];by_cases j:x.op=7
 ·rw[lG j];have a0:=Z (.inr (.inl j));refine Du.set ?_ 0 _ (by omega);refine h.of λk a1=>?_
  have a2:=G.len;by_cases e:k=x.x.toNat
  ·right;rw[zQ _ _ _ _ (by omega),show 2+2*k=2+(2*x.x).toNat by omega,qD _ _ _ (by omega)];exact(G.noted x.x.toNat (by omega)).1
  ·left;rw[zQ _ _ _ _ (by omega),zQ _ _ _ _ (by omega),zQ _ _ _ _ (by omega),zQ _ _ _ _ (by omega)];exact⟨rfl,rfl⟩
 rw[lC j];by_cases Y:x.op=8
 ·rw[lG Y];unfold bV;split
  ·exact h
  split
  ·exact h
  ·exact(h.set 1 _ (by omega)).set 0 _ (by omega)
 rw[lC Y];split
 ·exact h.set 0 _ (by omega)
 split
 ·exact h.set 0 _ (by omega)
 ·exact h.set 0 _ (by omega)
theorem Lg{s r}{x}{ok}(I:s.length=44)(G:r.length=44)(J:Du s)(j:ok=true->Du r)(h:(jG s x r ok).2=true):Du (jG s x r ok).1:=by
 unfold jG at h |-;split
 ·rename_i a;rw[lG a]at h;exact(j h).set 0 _ (by omega)
 rename_i a
 rw[lC a]at h;split
 ·rename_i b
  rw[lG b]at h;refine Du.set ?_ 0 _ (by omega);refine(j h).of λk O=>.inl ?_
  rw[bC s r I G,lG (by omega),bC s r I G,lG (by omega)];exact⟨rfl,rfl⟩
 ·exact J.set 0 _ (by omega)
theorem RJ E(O:codeOk E.c):∀N n s kn zA,n<=N->Good E.c.length E.t.size s->0<=zA/\zA<=5000->Du s->(zS E n s kn zA).ok=true->Du (zS E n s kn zA).st
 | N,0,s,kn,zA,_,h,hr,_,ho=>by rw[mF]at ho;cases ho
 | 0,n+1,s,kn,zA,hn,_,_,_,_=>by omega
 | N+1,n+1,s,kn,zA,hn,h,hrm,hg,ho=>by
  have U:=RJ E O N;rw[xA]at ho |-;have J:=E.nX s kn zA hrm;have b1:((zX s:Nat):Int)=gt s 0:=by have:=h.Ai;unfold zX;omega
  have W:=O (zX s) h.yS;have b0:=h.Ai;by_cases a3:E.dead s kn=true
  ·rw[lG a3]at ho;cases ho
  rw[lC a3]at ho |-;by_cases a0:(E.ins s).op=13\/(E.ins s).op=12
  ·rw[lG a0];exact hg
  rw[lC a0]at ho |-;have a6:(E.c.getD (zX s) kC).op≠13:=λe=>a0 (.inl e)
  by_cases Z:(E.ins s).op=2
  ·rw[lG Z]at ho |-;have G:=W.1 Z;have I:=yK E O N n (s.set 0 (E.ins s).x) (E.qK s kn zA) (E.zG s kn zA) (by omega) (h.dY _ G.1 G.2.1) J;have a8:=xE E n (s.set 0 (E.ins s).x) (E.qK s kn zA) (E.zG s kn zA);have a1:=U n (s.set 0 (E.ins s).x) (E.qK s kn zA) (E.zG s kn zA) (by omega) (h.dY _ G.1 G.2.1) J (hg.set 0 _ (by omega));dsimp only at ho |-;generalize zS E n (s.set 0 (E.ins s).x) (E.qK s kn zA) (E.zG s kn zA)=r at *;by_cases a5:(r.ok||r.kI)=true
   ·rw[lG a5]at ho |-;exact a1 ho
   ·rw[lC a5]at ho |-;exact U r.n (s.set 0 (E.ins s).y) r.kn r.zA (by omega) (h.dY _ G.2.2.1 G.2.2.2) I.2.2.1 (hg.set 0 _ (by omega)) ho
  rw[lC Z]at ho |-;by_cases Y:(E.ins s).op=11
  ·rw[lG Y]at ho |-;have a7:=W.2.2.2.2.2.1 Y;have a9:=W.2.2.2.2.2.2.1 a6;have a2:=h.dY (gt s 0+1) (by omega) (by omega);have I:=yK E O N n (s.set 0 (gt s 0+1)) (E.qK s kn zA) (E.zG s kn zA) (by omega) a2 J;have a8:=xE E n (s.set 0 (gt s 0+1)) (E.qK s kn zA) (E.zG s kn zA);have a1:=U n (s.set 0 (gt s 0+1)) (E.qK s kn zA) (E.zG s kn zA) (by omega) a2 J (hg.set 0 _ (by omega));dsimp only at ho |-;generalize zS E n (s.set 0 (gt s 0+1)) (E.qK s kn zA) (E.zG s kn zA)=r at *;by_cases a4:r.kI=true
   ·rw[lG a4]at ho;cases ho
   rw[lC a4]at ho |-;by_cases j:(jG s (E.ins s) r.st r.ok).2=true
   ·rw[lG j]at ho |-;exact U r.n _ r.kn r.zA (by omega) (jc h I.1 (E.ins s) a7.1 a7.2.1 j) I.2.2.1 (Lg h.len I.2.2.2.1 hg a1 j) ho
   ·rw[lC j]at ho;cases ho
  rw[lC Y]at ho |-;by_cases j:(kW E.t s (E.ins s)).2=true
  ·rw[lG j]at ho |-;exact U n _ _ _ (by omega) (yu O h (t:=E.t) Z Y a6 j) J (RI h hg (λe=>W.2.2.2.2.1 e)) ho
  ·rw[lC j]at ho;cases ho
theorem zCP(t)(q)(x:zT)(pc h a b X:Nat)(Y:x.op=8)(Z:x.x=X)(J:gt q 0=pc)(O:gt q 1=h)(U:gt q (2+2*X)=a)(W:gt q (2+(2*X+1))=b)(a0:a<=b)(a1:b<=t.size)(a2:h<=t.size):
  (kW t q x).2=(if(t.size:Int)<h+((b-a:Nat):Int)then false else HV t h a (b-a))/\((kW t q x).2=true->(kW t q x).1=(q.set 1 ((h)+((b-a:Nat):Int))).set 0 ((pc)+1)):=by
 unfold kW;rw[lC (by omega),lC (by omega),lC (by omega),lC (by omega),lC (by omega),lC (by omega),lG Y];unfold bV;have G:(2*x.x).toNat=2*X:=by omega
 have I:(2*x.x+1).toNat=2*X+1:=by omega
 rw[G,I,U,W,J,O,lC (by omega)];by_cases j:(t.size:Int)<h+((b-a:Nat):Int)
 ·rw[lG (show(t.size:Int)<(h:Int)+((b:Int)-(a:Int)) by omega),lG j];exact⟨rfl,λe=>by cases e⟩
 ·rw[lC (show ¬(t.size:Int)<(h:Int)+((b:Int)-(a:Int)) by omega),lC j];refine⟨?_,λ_=>?_⟩
  ·dsimp only;rw[Pw t h a (b-a) (by omega) (by omega)];simp only[gW];rw[show a+(b-a)=b by omega,show h+b-a=h+(b-a) by omega]
  ·dsimp only;rw[show(h:Int)+(b:Int)-(a:Int)=(h:Int)+((b-a:Nat):Int) by omega]
theorem zCQ(t)(q)(x:zT)(X:Nat)(G:x.op=8)(I:x.x=X)(j:gt q (2+2*X)=-1):(kW t q x).2=false:=by
 unfold kW;rw[lC (by omega),lC (by omega),lC (by omega),lC (by omega),lC (by omega),lC (by omega),lG G];unfold bV;have h:(2*x.x).toNat=2*X:=by omega
 rw[h,j,lG (by omega)]
theorem fH:∀(r:Re) p d x,x∈r.code p d->x.op=11->x.y<=p+r.len
 | .qb,p,d,x,h,ho=>by simp[Re.code]at h
 | .one s,p,d,x,h,ho=>by simp[Re.code]at h;subst h;simp at ho
 | .back s,p,d,x,h,ho=>by simp[Re.code]at h;subst h;simp at ho
 | .head,p,d,x,h,ho=>by simp[Re.code]at h;subst h;simp at ho
 | .tail,p,d,x,h,ho=>by simp[Re.code]at h;subst h;simp at ho
 | .cat a b,p,d,x,h,ho=>by
  simp only[Re.code,gV,Re.len]at *;rcases h with h | h
  ·have:=fH a _ _ x h ho;omega
  ·have:=fH b _ _ x h ho;omega
 | .alt a b,p,d,x,h,ho=>by
  simp only[Re.code,gV,oH,Re.len]at *;rcases h with rfl | h | rfl | h
  ·simp at ho
  ·have:=fH a _ _ x h ho;omega
  ·simp at ho
  ·have:=fH b _ _ x h ho;omega
 | .cap k a,p,d,x,h,ho=>by
  simp only[Re.code,gV,oH,sS,wY,Re.len]at *;rcases h with rfl | h | rfl
  ·simp at ho
  ·have:=fH a _ _ x h ho;omega
  ·simp at ho
 | .sub s a,p,d,x,h,ho=>by
  simp only[Re.code,gV,oH,sS,wY,Re.len]at *;rcases h with rfl | h | rfl
  ·dsimp only;omega
  ·have:=fH a _ _ x h ho;omega
  ·simp at ho
 | .opt late a,p,d,x,h,ho=>by
  simp only[Re.code,oH,Re.len]at *;rcases h with rfl | h
  ·cases late <;> simp[spl]at ho
  ·have:=fH a _ _ x h ho;omega
 | .loop late a,p,d,x,h,ho=>by
  simp only[Re.code,gV,oH,sS,wY,Re.len]at *;rcases h with rfl | rfl | h | rfl
  ·cases late <;> simp[spl]at ho
  ·simp at ho
  ·have:=fH a _ _ x h ho;omega
  ·simp at ho
def JQ(p:Int)(l:List zT):Prop:=∀(i j:Nat) (x y:zT),i<j->l[i]?=some x->l[j]?=some y->x.op=11->y.op=11->p+j<x.y->y.y<=x.y
theorem Bq{p}{a b}(W:JQ p a)(Y:JQ (p+a.length) b)(Z:∀x∈a,x.op=11->x.y<=p+a.length):JQ p (a++b):=by
 intro i a3 x y a0 a2 J I O a1;rcases tX a2 with ⟨U,j⟩ | ⟨U,j⟩
 ·rcases tX J with ⟨G,h⟩ | ⟨G,h⟩
  ·exact W i a3 x y a0 j h I O a1
  ·have:=Z x (List.mem_of_getElem? j) I;omega
 ·rcases tX J with ⟨G,h⟩ | ⟨G,h⟩
  ·omega
  ·exact Y _ _ x y (by omega) j h I O (by omega)
theorem je{p}{c}{b}(J:JQ (p+1) b)(O:c.op=11->∀y∈b,y.op=11->y.y<=c.y):JQ p (c::b):=by
 intro i a4 x y a2 U W j G a3;rcases qV W with ⟨a1,h⟩ | ⟨Z,rfl,h⟩
 ·omega
 rcases qV U with ⟨a0,rfl⟩ | ⟨Y,rfl,I⟩
 ·exact O j y (List.mem_of_getElem? h) G
 ·exact J Y Z x y (by omega) I h j G (by omega)
theorem jf{p c}(h:c.op≠11):JQ p [c]:=je (λi G x y _ j=>by simp at j) (λe=>absurd e h)
theorem tZ:∀(r:Re) p d,JQ p (r.code p d)
 | .qb,p,d=>λi J x y _ h=>by simp[Re.code]at h
 | .one s,p,d=>jf (by simp)
 | .back s,p,d=>jf (by simp)
 | .head,p,d=>jf (by simp)
 | .tail,p,d=>jf (by simp)
 | .cat a b,p,d=>Bq (tZ a p d) (by rw[Re.zH];exact tZ b _ d) (by rw[Re.zH];exact λx h j=>fH a p d x h j)
 | .alt a b,p,d=>je (Bq (tZ a _ d) (je (by rw[Re.zH,show p+1+(a.len:Int)+1=p+a.len+2 by omega];exact tZ b _ d) (λe=>by simp at e)) (by rw[Re.zH];exact λx h j=>fH a _ d x h j)) (λe=>by simp at e)
 | .cap k a,p,d=>je (Bq (tZ a _ d) (jf (by simp)) (by rw[Re.zH];exact λx h j=>fH a _ d x h j)) (λe=>by simp at e)
 | .sub s a,p,d=>je (Bq (tZ a _ d) (jf (by simp)) (by rw[Re.zH];exact λx h j=>fH a _ d x h j)) (λ_ y G I=>by
   rcases gV.1 G with G | G
   ·have:=fH a _ d y G I;dsimp only;omega
   ·simp at G;subst G;simp at I)
 | .opt late a,p,d=>je (tZ a _ d) (λe=>by cases late <;> simp[spl]at e)
 | .loop late a,p,d=>je (je (by rw[show p+1+1=p+2 by omega];exact Bq (tZ a _ _) (jf (by simp)) (by rw[Re.zH];exact λx h j=>fH a _ _ x h j)) (λe=>by simp at e)) (λe=>by cases late <;> simp[spl]at e)
def bh(c:List zT):Nat->Int
 | 0=>0
 | i+1=>if(i:Int)<bh c i then bh c i else if(c.getD i kC).op=11 then(c.getD i kC).y else bh c i
theorem Px c:∀i,bh c i=0\/∃h,h<i/\(c.getD h kC).op=11/\bh c i=(c.getD h kC).y
 | 0=>.inl rfl
 | i+1=>by
  have I:=Px c i;unfold bh;split
  ·rcases I with j | ⟨h,J,G⟩
   ·exact .inl j
   ·exact .inr ⟨h,by omega,G⟩
  split
  ·rename_i j;exact .inr ⟨i,by omega,j,rfl⟩
  ·rcases I with j | ⟨h,J,G⟩
   ·exact .inl j
   ·exact .inr ⟨h,by omega,G⟩
theorem zD4 c(h:JQ 0 c):∀i,i<=c.length->∀j,j<i->(c.getD j kC).op=11->(i)<(c.getD j kC).y->(c.getD j kC).y<=bh c i
 | 0,_,j,G,_,_=>by omega
 | i+1,hi,j,hj,ho,hy=>by
  by_cases W:j<i
  ·have:=zD4 c h i (by omega) j W ho (by omega);rw[bh,lG (by omega)];exact this
  ·have e:j=i:=by omega
   subst e;rw[bh];split
   ·rename_i U
    rcases Px c j with G | ⟨k,I,J,O⟩
    ·omega
    ·rw[O]at U |-;refine h k j _ _ I (by rw[lH,lN (show k<c.length by omega)];rfl) (by rw[lH,lN (show j<c.length by omega)];rfl) J ho (by omega)
   ·first | exact oL _|(rw[lG ho];exact oL _)
theorem zAu c(I:JQ 0 c) i(a0:i<c.length):decide ((i)<bh c i)=vw c i:=by
 unfold vw;rw[uE];simp only[gM,aN,aY];constructor
 ·intro U;rcases Px c i with W | ⟨h,Y,G,Z⟩
  ·omega
  ·refine⟨c.getD h kC,?_,G,by omega⟩;rw[lH,lN (show h<c.length by omega)];simp only[uS];rw[iR];exact⟨h,by omega,rfl⟩
 ·rintro⟨x,j,J,O⟩;rw[iR]at j;obtain⟨h,a1,rfl⟩:=j;have e:c.getD h kC=c[h]:=by rw[lH,lN (show h<c.length by omega)];rfl
  have:=zD4 c I i (by omega) h (by omega) (by rw[e];exact J) (by rw[e];exact O);rw[e]at this;omega
theorem Py(p)(h:(qW p).1=0):JQ 0 (jA p).1:=by
 obtain⟨f,_,_,_,_,_,j,_⟩:=kr p h;rw[j];refine Bq (tZ f.re 0 0) (jf (by simp)) ?_;rw[Re.zH];exact λx I G=>fH f.re 0 0 x I G
def BG(t:zU):Prop:=t.jB=4->t.kind=6
theorem Zb p i:BG (kS p i).1:=by
 unfold kS;split
 ·simp[BG]
 split
 ·simp[BG]
 split
 ·simp[BG]
 split
 ·simp[BG]
 split
 ·unfold vM;split
  ·simp[BG]
  split
  ·simp[BG]
  split
  ·simp[BG]
  ·simp[BG]
 split
 ·unfold yI;split
  ·simp[BG]
  ·simp[BG]
 split
 ·unfold kU
  repeat' split
  all_goals simp[BG]
 split
 ·have h:=Bg p (i+1);have j:=Bg p (count p i).2.2.1;unfold jN;split
  ·simp only[BG];omega
  split
  ·simp only[BG];omega
  split
  ·split
   ·simp only[BG];omega
   ·simp[BG]
  ·simp only[BG];omega
 split
 ·simp[BG]
 ·simp[BG]
def VB(l:List zU):Prop:=∀t∈l,BG t
theorem VD p:∀(f:Nat) l(i:Int),0<=i->i<=p.size->(p.size:Int)-i<f->VB l->VB (vP p l i).1:=by
 intro f;induction f with
 | zero=>intro l i j G U;omega
 | succ f W =>
  intro l i j G U J;rw[dW p l i j G];by_cases a:(p.size:Int)<=i
  ·rw[lG a];exact J
  rw[lC a];by_cases b:(kS p i).2≠0
  ·rw[lG b];intro t h;simp at h
  rw[lC b];by_cases c:may l (kS p i).1≠0
  ·rw[lG c];intro t h;simp at h
  rw[lC c];have Y:=tq p i j (by omega) (by omega);refine W _ _ (by omega) (by omega) (by omega) (λt h=>?_);rcases gV.1 h with h | h
  ·exact J t h
  ·simp at h;have O:=ug l (kS p i).1;subst h;intro I;rw[O.2.1]at I;rw[O.1];exact Zb p i I
theorem VE(p)(h:(zP p).2.1=0):VB (zP p).1:=by
 by_cases I:p.size<=64
 ·have J:=VD p ((p.size:Int)+1).toNat [] 0 (by omega) (by omega) (by omega) (by intro t j;simp at j);unfold zP at h |-;rw[lC (by omega),dP p I]at h |-;split
  ·rename_i G;rw[lG G]at h;exact absurd h G
  ·split
   ·intro t j;simp at j
   ·exact J
 ·unfold zP at h;rw[lG (by omega)]at h;simp at h
theorem zBZ(p)(j:(qW p).1=0):∀i,i<(zP p).1.length->((zP p).1.getD i zZ).set.length<=256/\(((zP p).1.getD i zZ).kind=2->((zP p).1.getD i zZ).n<=9)/\(((zP p).1.getD i zZ).jB=4->((zP p).1.getD i zZ).n<=9):=by
 have U:(zP p).2.1=0:=by
  unfold qW at j;by_cases G:(zP p).2.1=0
  ·exact G
  ·rw[lG G]at j;exact j
 have a1:=ko p U;have Y:=KX a1.1;have Z:=VE p U;intro i J
 have O:(zP p).1.getD i zZ∈(zP p).1:=by
  rw[lH,lN J];exact uK J
 have h:=Y _ O;have W:=Z _ O;unfold Xr at h;exact⟨h.1,λa0=>(h.2.1 a0).2,λI=>(h.2.2.2 (W I) I).2⟩
