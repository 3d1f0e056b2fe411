import Derived.Test.YtebpgfodelggoaaGreatC05
set_option linter.all false
namespace Mt
def Rule(A:Int->fO)(q:Int)(x:zT):Prop:=
 (x.op=1\/x.op=8\/x.op=9\/x.op=10->A (q+1)=A q)
 /\ (x.op=2->A x.x=A q/\A x.y=A q)
 /\ (x.op=3->A x.x=A q)
 /\ (x.op=4->x.x=(A q).d/\A (q+1)=⟨(A q).G,(A q).d+1,(A q).y,(A q).B⟩/\x.x<11)
 /\ (x.op=5->A x.x=⟨(A q).G,(A q).d-1,(A q).y,(A q).B⟩/\x.y=(A q).d-1/\0<=x.y/\x.y<11)
 /\ (x.op=6->A (q+1)=⟨x.x::(A q).G,(A q).d,(A q).y,(A q).B⟩/\x.x∉(A q).G)
 /\ (x.op=7->∃g,(A q).G=x.x::g/\A (q+1)=⟨g,(A q).d,(A q).y,(A q).B⟩)
 /\ (x.op=11->A (q+1)=⟨(A q).G,(A q).d,x.y,(A q).G⟩/\A x.y=A q/\A (x.y-1)=⟨(A q).G,(A q).d,x.y,(A q).G⟩/\0<x.y)
 /\ (x.op=12->(A q).y=q+1)
 /\ (∀k∈(A q).B,k∈(A q).G)/\(0<=(A q).d/\(A q).d<=11)/\(∀k∈(A q).G,0<=k/\k<10)/\(1<=x.op/\x.op<=12)
theorem tX{α:Type}{a b:List α}{i x}(h:(a++b)[i]?=some x):(i<a.length/\a[i]?=some x)\/(a.length<=i/\b[i-a.length]?=some x):=by
 by_cases j:i<a.length
 ·rw[gK j]at h;exact .inl ⟨j,h⟩
 ·rw[gL (by omega)]at h;exact .inr ⟨by omega,h⟩
theorem qV{α:Type}{b c i}{x:α}(h:(c::b)[i]?=some x):(i=0/\x=c)\/(∃j,i=j+1/\b[j]?=some x):=by
 cases i with
 | zero=>simp at h;exact .inl ⟨rfl,h.symm⟩
 | succ j=>rw[gI]at h;exact .inr ⟨j,rfl,h⟩
theorem Et{A}{q}{x}(h:A (q+1)=A q)(O:x.op=1\/x.op=8\/x.op=9\/x.op=10)(j:∀k∈(A q).B,k∈(A q).G)(J:0<=(A q).d/\(A q).d<=11)(I:∀k∈(A q).G,0<=k/\k<10):Rule A q x:=
 ⟨λ_=>h,λe=>by omega,λe=>by omega,λe=>by omega,λe=>by omega,λe=>by omega,λe=>by omega,λe=>by omega,λe=>by omega,j,J,I,by omega⟩
theorem Le{A}{q}(u v)(late)(h:A u=A q)(j:A v=A q)(I:∀k∈(A q).B,k∈(A q).G)(O:0<=(A q).d/\(A q).d<=11)(J:∀k∈(A q).G,0<=k/\k<10):Rule A q (spl u v late):=by
 have U:(spl u v late).op=2:=by cases late <;> rfl
 refine⟨λe=>by omega,λ_=>?_,λe=>by omega,λe=>by omega,λe=>by omega,λe=>by omega,λe=>by omega,λe=>by omega,λe=>by omega,I,O,J,by omega⟩;cases late
 ·exact⟨h,j⟩
 ·exact⟨j,h⟩
theorem tY A:∀r p a m,nQ A r p a->r.inc m->r.fine->(∀k∈a.G,k<=m)->(∀k∈a.G,0<=k/\k<10)->(∀k∈a.B,k∈a.G)->0<=a.d->a.d+r.deep<=11->0<=p->
  ∀(i:Nat) x,(r.code p a.d)[i]?=some x->Rule A (p+i) x
 | .qb,p,a,m,h,hi,hF,hG,hR,hB,h0,hd,hp,i,x,hx=>by simp[Re.code]at hx
 | .one s,p,a,m,h,hi,hF,hG,hR,hB,h0,hd,hp,i,x,hx=>by
  simp only[Re.deep]at hd;rcases qV hx with ⟨rfl,rfl⟩ | ⟨J,_,j⟩
  ·simp only[uG,uP];exact Et (h.2.trans h.1.symm) (by simp) (by rw[h.1];exact hB) (by rw[h.1];omega) (by rw[h.1];exact hR)
  ·simp at j
 | .back s,p,a,m,h,hi,hF,hG,hR,hB,h0,hd,hp,i,x,hx=>by
  simp only[Re.deep]at hd;rcases qV hx with ⟨rfl,rfl⟩ | ⟨J,_,j⟩
  ·simp only[uG,uP];exact Et (h.2.trans h.1.symm) (by simp) (by rw[h.1];exact hB) (by rw[h.1];omega) (by rw[h.1];exact hR)
  ·simp at j
 | .head,p,a,m,h,hi,hF,hG,hR,hB,h0,hd,hp,i,x,hx=>by
  simp only[Re.deep]at hd;rcases qV hx with ⟨rfl,rfl⟩ | ⟨J,_,j⟩
  ·simp only[uG,uP];exact Et (h.2.trans h.1.symm) (by simp) (by rw[h.1];exact hB) (by rw[h.1];omega) (by rw[h.1];exact hR)
  ·simp at j
 | .tail,p,a,m,h,hi,hF,hG,hR,hB,h0,hd,hp,i,x,hx=>by
  simp only[Re.deep]at hd;rcases qV hx with ⟨rfl,rfl⟩ | ⟨J,_,j⟩
  ·simp only[uG,uP];exact Et (h.2.trans h.1.symm) (by simp) (by rw[h.1];exact hB) (by rw[h.1];omega) (by rw[h.1];exact hR)
  ·simp at j
 | .cat u v,p,a,m,h,hi,hF,hG,hR,hB,h0,hd,hp,i,x,hx=>by
  simp only[Re.deep]at hd;rcases tX hx with ⟨_,j⟩ | ⟨U,j⟩
  ·exact tY A u p a m h.1 hi.1 hF.1 hG hR hB h0 (by omega) hp i x j
  ·rw[Re.zH]at U j;have:=tY A v _ a m h.2 hi.2 hF.2 hG hR hB h0 (by omega) (by omega) _ x j;rw[show p+(u.len:Int)+((i-u.len:Nat):Int)=p+i by omega]at this;exact this
 | .alt u v,p,a,m,h,hi,hF,hG,hR,hB,h0,hd,hp,i,x,hx=>by
  simp only[Re.deep]at hd;have I:=h.2.1.last;have a1:=h.2.2.last;rcases qV hx with ⟨rfl,rfl⟩ | ⟨J,rfl,j⟩
  ·simp only[uG,uP];exact Le (p+1) (p+u.len+2) false (h.2.1.first.trans h.1.symm) (h.2.2.first.trans h.1.symm) (by rw[h.1];exact hB) (by rw[h.1];omega) (by rw[h.1];exact hR)
  rcases tX j with ⟨_,j⟩ | ⟨U,j⟩
  ·have:=tY A u _ a m h.2.1 hi.1 hF.1 hG hR hB h0 (by omega) (by omega) _ x j;rw[show p+1+(J:Int)=p+((J+1:Nat):Int) by omega]at this;exact this
  ·rw[Re.zH]at U j;rcases qV j with ⟨e,rfl⟩ | ⟨k,e,O⟩
   ·have W:p+((J+1:Nat):Int)=p+1+u.len:=by omega
    rw[W];refine⟨λe=>by simp at e,λe=>by simp at e,λ_=>?_,λe=>by simp at e,λe=>by simp at e,λe=>by simp at e,λe=>by simp at e,λe=>by simp at e,λe=>by simp at e,by rw[I];exact hB,by rw[I];omega,by rw[I];exact hR,by simp⟩;rw[I];exact a1
   ·have:=tY A v _ a m h.2.2 hi.2 hF.2 hG hR hB h0 (by omega) (by omega) _ x O;rw[show p+(u.len:Int)+2+(k:Int)=p+((J+1:Nat):Int) by omega]at this;exact this
 | .cap k u,p,a,m,h,hi,hF,hG,hR,hB,h0,hd,hp,i,x,hx=>by
  simp only[Re.deep]at hd
  have Z:∀z∈k::a.G,0<=z/\z<10:=λz hz=>by
   have O:=hF.1;rcases oH.1 hz with rfl | hz
   ·omega
   ·exact hR z hz
  have I:=h.2.1.last;have Y:=h.2.1.first
  rcases qV hx with ⟨rfl,rfl⟩ | ⟨J,rfl,j⟩
  ·simp only[uG,uP];refine⟨λe=>by simp at e,λe=>by simp at e,λe=>by simp at e,λe=>by simp at e,λe=>by simp at e,λ_=>⟨by rw[h.1];exact Y,?_⟩,λe=>by simp at e,λe=>by simp at e,λe=>by simp at e,by rw[h.1];exact hB,by rw[h.1];omega,by rw[h.1];exact hR,by simp⟩;rw[h.1];intro O;have:=hG _ O;have:=hi.1;simp at *;omega
  rcases tX j with ⟨_,j⟩ | ⟨U,j⟩
  ·have:=tY A u _ _ k h.2.1 hi.2 hF.2 (λz hz=>by
    rcases oH.1 hz with rfl | hz
    ·exact oL _
    ·have:=hG z hz;have:=hi.1;omega) Z (λz hz=>uT _ (hB z hz)) h0 (by simpa using hd) (by omega) _ x j
   rw[show p+1+(J:Int)=p+((J+1:Nat):Int) by omega]at this;exact this
  ·rw[Re.zH]at U j;rcases qV j with ⟨e,rfl⟩ | ⟨a0,e,O⟩
   ·have W:p+((J+1:Nat):Int)=p+1+u.len:=by omega
    rw[W];refine⟨λe=>by simp at e,λe=>by simp at e,λe=>by simp at e,λe=>by simp at e,λe=>by simp at e,λe=>by simp at e,λ_=>⟨a.G,by rw[I],?_⟩,λe=>by simp at e,λe=>by simp at e,by rw[I];exact λz hz=>uT _ (hB z hz),by rw[I];dsimp only;omega,by rw[I];exact Z,by simp⟩;rw[I,show p+1+(u.len:Int)+1=p+u.len+2 by omega,h.2.2]
   ·simp at O
 | .sub s u,p,a,m,h,hi,hF,hG,hR,hB,h0,hd,hp,i,x,hx=>by
  simp only[Re.deep]at hd;have I:=h.2.1.last;have Y:=h.2.1.first
  rcases qV hx with ⟨rfl,rfl⟩ | ⟨J,rfl,j⟩
  ·simp only[uG,uP];refine⟨λe=>by simp at e,λe=>by simp at e,λe=>by simp at e,λe=>by simp at e,λe=>by simp at e,λe=>by simp at e,λe=>by simp at e,λ_=>⟨by rw[h.1];exact Y,by rw[h.1];exact h.2.2,?_,by dsimp only;omega⟩,λe=>by simp at e,by rw[h.1];exact hB,by rw[h.1];omega,by rw[h.1];exact hR,by simp⟩;dsimp only;rw[show p+(u.len:Int)+2-1=p+1+u.len by omega,I,h.1]
  rcases tX j with ⟨_,j⟩ | ⟨U,j⟩
  ·have:=tY A u _ _ m h.2.1 hi hF.2 hG hR (λz hz=>hz) h0 (by simpa using hd) (by omega) _ x j;rw[show p+1+(J:Int)=p+((J+1:Nat):Int) by omega]at this;exact this
  ·rw[Re.zH]at U j;rcases qV j with ⟨e,rfl⟩ | ⟨a0,e,O⟩
   ·have W:p+((J+1:Nat):Int)=p+1+u.len:=by omega
    rw[W];refine⟨λe=>by simp at e,λe=>by simp at e,λe=>by simp at e,λe=>by simp at e,λe=>by simp at e,λe=>by simp at e,λe=>by simp at e,λe=>by simp at e,λ_=>?_,by rw[I];exact λz hz=>hz,by rw[I];dsimp only;omega,by rw[I];exact hR,by simp⟩;rw[I];dsimp only;omega
   ·simp at O
 | .opt late u,p,a,m,h,hi,hF,hG,hR,hB,h0,hd,hp,i,x,hx=>by
  simp only[Re.deep]at hd;have I:=h.2.last;rcases qV hx with ⟨rfl,rfl⟩ | ⟨J,rfl,j⟩
  ·simp only[uG,uP];refine Le (p+1) (p+u.len+1) late (h.2.first.trans h.1.symm) ?_ (by rw[h.1];exact hB) (by rw[h.1];omega) (by rw[h.1];exact hR);rw[show p+(u.len:Int)+1=p+1+u.len by omega,I,h.1]
  ·have:=tY A u _ a m h.2 hi hF hG hR hB h0 (by omega) (by omega) _ x j;rw[show p+1+(J:Int)=p+((J+1:Nat):Int) by omega]at this;exact this
 | .loop late u,p,a,m,h,hi,hF,hG,hR,hB,h0,hd,hp,i,x,hx=>by
  simp only[Re.deep]at hd;have I:=h.2.2.1.last;have Y:=h.2.2.1.first
  rcases qV hx with ⟨rfl,rfl⟩ | ⟨J,rfl,j⟩
  ·simp only[uG,uP];exact Le (p+1) (p+u.len+3) late (h.2.1.trans h.1.symm) (h.2.2.2.trans h.1.symm) (by rw[h.1];exact hB) (by rw[h.1];omega) (by rw[h.1];exact hR)
  rcases qV j with ⟨rfl,rfl⟩ | ⟨J,rfl,j⟩
  ·simp only[rO,Int.natCast_one];refine⟨λe=>by simp at e,λe=>by simp at e,λe=>by simp at e,λ_=>⟨by rw[h.2.1],by rw[h.2.1,show p+1+1=p+2 by omega];exact Y,by dsimp only;omega⟩,λe=>by simp at e,λe=>by simp at e,λe=>by simp at e,λe=>by simp at e,λe=>by simp at e,by rw[h.2.1];exact hB,by rw[h.2.1];omega,by rw[h.2.1];exact hR,by simp⟩
  rcases tX j with ⟨_,j⟩ | ⟨U,j⟩
  ·have:=tY A u _ _ m h.2.2.1 hi hF hG hR hB (by dsimp only;omega) (by dsimp only;omega) (by omega) _ x j;rw[show p+2+(J:Int)=p+((J+1+1:Nat):Int) by omega]at this;exact this
  ·rw[Re.zH]at U j;rcases qV j with ⟨e,rfl⟩ | ⟨a0,e,O⟩
   ·have W:p+((J+1+1:Nat):Int)=p+2+u.len:=by omega
    rw[W];refine⟨λe=>by simp at e,λe=>by simp at e,λe=>by simp at e,λe=>by simp at e,λ_=>⟨?_,?_,by dsimp only;omega,by dsimp only;omega⟩,λe=>by simp at e,λe=>by simp at e,λe=>by simp at e,λe=>by simp at e,by rw[I];exact hB,by rw[I];dsimp only;omega,by rw[I];exact hR,by simp⟩
    ·rw[I,h.1];dsimp only;rw[Int.add_sub_cancel]
    ·rw[I];dsimp only;omega
   ·simp at O
theorem dJ A:∀r p d a,nQ A r p a->∀i,i<=r.len->(A (p+i)).d+((r.code p d).take i).countP dS=a.d+((r.code p d).take i).countP xG
 | .qb,p,d,a,h,i,hi=>by
  have e:i=0:=by simp[Re.len]at hi;exact hi
  subst e;have a1:A p=a:=h;simp[a1,Re.code]
 | .one s,p,d,a,h,i,hi=>Wq A p a h.1 h.2 ⟨1,0,0,s⟩ rfl rfl i hi
 | .back s,p,d,a,h,i,hi=>Wq A p a h.1 h.2 ⟨8,s,0,[]⟩ rfl rfl i hi
 | .head,p,d,a,h,i,hi=>Wq A p a h.1 h.2 ⟨9,0,0,[]⟩ rfl rfl i hi
 | .tail,p,d,a,h,i,hi=>Wq A p a h.1 h.2 ⟨10,0,0,[]⟩ rfl rfl i hi
 | .cat u v,p,d,a,h,i,hi=>by
  simp only[Re.len]at hi;rw[Re.code,xR,xR,Re.zH];by_cases U:i<=u.len
  ·have:=dJ A u p d a h.1 i U;rw[show i-u.len=0 by omega];simpa using this
  ·have j:=dJ A u p d a h.1 u.len (lF _);have O:=dJ A v (p+u.len) d a h.2 (i-u.len) (by omega);rw[show p+(u.len:Int)+((i-u.len:Nat):Int)=p+i by omega]at O;rw[h.1.last,oG (by rw[Re.zH];omega)]at j;rw[oG (by rw[Re.zH];omega)];omega
 | .alt u v,p,d,a,h,i,hi=>by
  simp only[Re.len]at hi;rw[Re.code,jH,jH,xR,xR,jH,jH,Re.zH];have j:=dJ A u (p+1) d a h.2.1 u.len (lF _);rw[h.2.1.last,oG (by rw[Re.zH];omega)]at j;simp only[xG,dS]at *;simp only[show((2:Int)=4)=False by simp,show((2:Int)=5)=False by simp,show((3:Int)=4)=False by simp,show((3:Int)=5)=False by simp,decide_false,sH,and_false,wX,rO];by_cases G:i=0
  ·subst G;simp[h.1]
  by_cases U:i<=u.len+1
  ·have:=dJ A u (p+1) d a h.2.1 (i-1) (by omega);rw[show p+1+((i-1:Nat):Int)=p+i by omega]at this;rw[show i-1-u.len-1=0 by omega];simpa using this
  ·have O:=dJ A v (p+u.len+2) d a h.2.2 (i-u.len-2) (by omega);rw[show p+(u.len:Int)+2+((i-u.len-2:Nat):Int)=p+i by omega]at O;rw[oG (by rw[Re.zH];omega),show i-1-u.len-1=i-u.len-2 by omega];omega
 | .cap k u,p,d,a,h,i,hi=>by
  simp only[Re.len]at hi;exact Ws A u p d a _ h.1 h.2.1 h.2.2 rfl (dJ A u (p+1) d _ h.2.1) ⟨6,k,0,[]⟩ ⟨7,k,0,[]⟩ rfl rfl rfl rfl i hi
 | .sub s u,p,d,a,h,i,hi=>by
  simp only[Re.len]at hi;exact Ws A u p d a _ h.1 h.2.1 h.2.2 rfl (dJ A u (p+1) d _ h.2.1) ⟨11,s,p+u.len+2,[]⟩ ⟨12,0,0,[]⟩ rfl rfl rfl rfl i hi
 | .opt late u,p,d,a,h,i,hi=>by
  simp only[Re.len]at hi;rw[Re.code,jH,jH];have I:xG (spl (p+1) (p+u.len+1) late)=false:=by cases late <;> rfl
  have J:dS (spl (p+1) (p+u.len+1) late)=false:=by cases late <;> rfl
  rw[I,J];by_cases G:i=0
  ·subst G;simp[h.1]
  ·have:=dJ A u (p+1) d a h.2 (i-1) (by omega);rw[show p+1+((i-1:Nat):Int)=p+i by omega]at this;simpa using this
 | .loop late u,p,d,a,h,i,hi=>by
  simp only[Re.len]at hi;rw[Re.code,jH,jH,jH,jH,xR,xR,jH,jH,Re.zH];have I:xG (spl (p+1) (p+u.len+3) late)=false:=by cases late <;> rfl
  have J:dS (spl (p+1) (p+u.len+3) late)=false:=by cases late <;> rfl
  rw[I,J];have j:=dJ A u (p+2) (d+1) _ h.2.2.1 u.len (lF _);rw[h.2.2.1.last,oG (by rw[Re.zH];omega)]at j;have W:xG ⟨4,d,0,[]⟩=true:=rfl;have Y:dS ⟨4,d,0,[]⟩=false:=rfl;have Z:xG ⟨5,p,d,[]⟩=false:=rfl;have a0:dS ⟨5,p,d,[]⟩=true:=rfl;rw[W,Y,Z,a0];by_cases G:i=0
  ·subst G;simp[h.1]
  by_cases a2:i=1
  ·subst a2;have:=h.2.1;simp[this]
  by_cases U:i<=u.len+2
  ·have:=dJ A u (p+2) (d+1) _ h.2.2.1 (i-2) (by omega);rw[show p+2+((i-2:Nat):Int)=p+i by omega]at this;dsimp only at this;rw[show i-1-1-u.len-1=0 by omega,show i-1-1=i-2 by omega,show i-2-u.len=0 by omega];simp only[sH,and_false,wX,Nat.lt_irrefl,wJ,aG,List.countP_nil];rw[lG (by omega)];omega
  ·have e:i=u.len+3:=by omega
   subst e;have:=h.2.2.2;rw[show p+((u.len+3:Nat):Int)=p+u.len+3 by omega,this];rw[oG (l:=u.code (p+2) (d+1)) (by rw[Re.zH];omega)];simp only[sH,and_false,wX,wJ,List.take_nil,List.countP_nil];rw[lG (by omega),lG (by omega)];dsimp only at j;omega
 where
 Wq (A:Int->fO) (p:Int) (a:fO) (h1:A p=a) (h2:A (p+1)=a) (x:zT) (e1:xG x=false) (e2:dS x=false) (i:Nat) (hi:i<=1):(A (p+i)).d+([x].take i).countP dS=a.d+([x].take i).countP xG:=by
  rw[jH,jH,e1,e2];by_cases h0:i=0
  ·subst h0;simp[h1]
  ·have:i=1:=by omega
   subst this;simp[h2]
 Ws (A:Int->fO) (u:Re) (p d:Int) (a b:fO) (h1:A p=a) (h2:nQ A u (p+1) b) (h3:A (p+u.len+2)=a) (hb:b.d=a.d) (ih:∀i:Nat,i<=u.len->(A (p+1+i)).d+((u.code (p+1) d).take i).countP dS=b.d+((u.code (p+1) d).take i).countP xG) (x y:zT) (e1:xG x=false) (e2:dS x=false) (e3:xG y=false) (e4:dS y=false) (i:Nat) (hi:i<=u.len+2):
   (A (p+i)).d+((x::(u.code (p+1) d++[y])).take i).countP dS=a.d+((x::(u.code (p+1) d++[y])).take i).countP xG:=by
  rw[jH,jH,xR,xR,jH,jH,Re.zH,e1,e2,e3,e4];have l1:=ih u.len (lF _);rw[h2.last,oG (by rw[Re.zH];omega)]at l1;by_cases h0:i=0
  ·subst h0;simp[h1]
  by_cases hl:i<=u.len+1
  ·have:=ih (i-1) (by omega);rw[show p+1+((i-1:Nat):Int)=p+i by omega,hb]at this;simpa using this
  ·have e:i=u.len+2:=by omega
   subst e;rw[show p+((u.len+2:Nat):Int)=p+u.len+2 by omega,h3,oG (by rw[Re.zH];omega)];simp;omega
structure Known (c:List zT) (A:Int->fO):Prop where
 ok:codeOk c
 rule:∀q,q+1<c.length->Rule A q (c.getD q kC)
 last:(c.getD (c.length-1) kC).op=13
 pos:0<c.length
 start:A 0=⟨[],0,0,[]⟩
 stop:A ((c.length-1:Nat):Int)=⟨[],0,0,[]⟩
 loops:∀q:Nat,q<c.length->(A q).d=jY c q
 len:c.length<=300
theorem Gg(p)(I:(qW p).1=0):∃A f,Known (jA p).1 A/\nQ A f 0 ⟨[],0,0,[]⟩/\(jA p).1=f.code 0 0++[⟨13,0,0,[]⟩]:=by
 have a4:(zP p).2.1=0:=by
  unfold qW at I;by_cases O:(zP p).2.1=0
  ·exact O
  ·rw[lG O]at I;exact I
 have a5:=ko p a4;obtain⟨f,a6,e,W,a0,a8,h,_⟩:=kr p I;have Z:BR (zP p).1:=λa7 a2=>(a5.1 a7 a2).2.2
 have hnd:=Er (zP p).1 [] (by simpa using Z);rw[e]at hnd;have a1:f.re.inc 0:=Ca (Bn f 0 a6 (by simpa[kD]using hnd));obtain⟨A,j⟩:=tV f.re 0 ⟨[],0,0,[]⟩;have Y:(jA p).1.length=f.re.len+1:=by rw[h,lQ,Re.zH];rfl
 refine⟨A,f.re,⟨by rw[h];exact Jf f.re W a0,λq a3=>?_,?_,by omega,j.first,?_,λq a3=>?_,by omega⟩,j,h⟩
 ·have:=tY A f.re 0 ⟨[],0,0,[]⟩ 0 j a1 W (λk G=>by simp at G) (λk G=>by simp at G) (λk G=>G) (by dsimp only;omega) (by dsimp only;omega) (by omega) q ((jA p).1.getD q kC) (by
   rw[h,lH,gK (by rw[Re.zH];omega)];dsimp only;rw[lN (by rw[Re.zH];omega)];rfl)
  rw[uV]at this;exact this
 ·rw[Y,h,lH,gL (by rw[Re.zH];omega),Re.zH];simp
 ·have:=j.last;rw[Y,show((f.re.len+1-1:Nat):Int)=0+f.re.len by omega];exact this
 ·have U:=dJ A f.re 0 0 _ j q (by omega);have J:=Lb f.re _ h q;rw[h]at J;rw[xR,xR]at J;rw[Re.zH,show q-f.re.len=0 by omega]at J;rw[uV]at U;rw[h];dsimp only at U;simp only[aG,List.countP_nil]at J;omega
theorem EP(p)(h:(qW p).1=0):∃A,Known (jA p).1 A:=by
 obtain⟨A,f,j,_⟩:=Gg p h;exact⟨A,j⟩
structure vF (a:fO) (s q:qL):Prop where
 ls:s.length=44
 lq:q.length=43
 low:∀i,i<22->gt q i=gt s i
 notes:∀k∈a.G,gt q (22+k.toNat)=gt s (22+k.toNat)
 marks:∀j:Nat,(j:Int)<a.d->gt q (32+j)=gt s (32+j)
def FV(A:Int->fO)(s q:qL):Prop:=vF (A (gt s 0)) s q
theorem vF.Eu{a s q}(h:vF a s q) i(U:i<22) v:vF a (s.set i v) (q.set i v):=by
 refine⟨by rw[gY];exact h.ls,by rw[gY];exact h.lq,λj G=>?_,λk I=>?_,λj G=>?_⟩
 ·have J:=h.ls;have O:=h.lq
  rw[AJ,AJ];by_cases e:i=j
  ·rw[lG ⟨e,by omega⟩,lG ⟨e,by omega⟩]
  ·rw[lC (by omega),lC (by omega)];exact h.low j G
 ·rw[zQ _ _ _ _ (by omega),zQ _ _ _ _ (by omega)];exact h.notes k I
 ·rw[zQ _ _ _ _ (by omega),zQ _ _ _ _ (by omega)];exact h.marks j G
theorem vF.note{a s q}(h:vF a s q) k(W:k.toNat<10)(U:∀z∈a.G,0<=z/\z<10) v:vF ⟨k::a.G,a.d,a.y,a.B⟩ (s.set (22+k.toNat) v) (q.set (22+k.toNat) v):=by
 have J:=h.ls;have O:=h.lq
 refine⟨by rw[gY];exact h.ls,by rw[gY];exact h.lq,λI j=>?_,λz hz=>?_,λI j=>?_⟩
 ·rw[zQ _ _ _ _ (by omega),zQ _ _ _ _ (by omega)];exact h.low I j
 ·rw[AJ,AJ];by_cases e:k.toNat=z.toNat
  ·rw[lG ⟨by omega,by omega⟩,lG ⟨by omega,by omega⟩]
  ·rw[lC (by omega),lC (by omega)];rcases oH.1 hz with rfl | hz
   ·exact absurd rfl e
   ·exact h.notes z hz
 ·rw[zQ _ _ _ _ (by omega),zQ _ _ _ _ (by omega)];exact h.marks I j
theorem vF.mark{a s q}(h:vF a s q) x(Z:x=a.d)(O:0<=x)(W:x<11)(J:∀z∈a.G,0<=z/\z<10) v:vF ⟨a.G,a.d+1,a.y,a.B⟩ (s.set (32+x.toNat) v) (q.set (32+x.toNat) v):=by
 have U:=h.ls;have Y:=h.lq
 refine⟨by rw[gY];exact h.ls,by rw[gY];exact h.lq,λj I=>?_,λz hz=>?_,λj I=>?_⟩
 ·rw[zQ _ _ _ _ (by omega),zQ _ _ _ _ (by omega)];exact h.low j I
 ·have:=J z hz;rw[zQ _ _ _ _ (by omega),zQ _ _ _ _ (by omega)];exact h.notes z hz
 ·rw[AJ,AJ];by_cases e:x.toNat=j
  ·rw[lG ⟨by omega,by omega⟩,lG ⟨by omega,by omega⟩]
  ·rw[lC (by omega),lC (by omega)];exact h.marks j (by dsimp only at I;omega)
theorem vF.less{a b s q}(h:vF a s q)(j:∀k∈b.G,k∈a.G)(O:b.d<=a.d):vF b s q:=
 ⟨h.ls,h.lq,h.low,λk I=>h.notes k (j k I),λJ U=>h.marks J (by omega)⟩
theorem vF.to{A}{s q}{v}(h:vF (A v) s q):FV A (s.set 0 v) (q.set 0 v):=by
 have e:gt (s.set 0 v) 0=v:=qD _ _ _ (by have:=h.ls;omega);show vF (A (gt (s.set 0 v) 0)) _ _;rw[e];exact h.Eu 0 (by omega) v
theorem FV.jump{A}{s q}{v}(h:FV A s q)(e:A v=A (gt s 0)):FV A (s.set 0 v) (q.set 0 v):=by
 refine vF.to ?_;rw[e];exact h
theorem FV.zX{A:Int->fO}{s q:qL}(h:FV A s q):zX q=zX s:=by unfold Mt.zX;rw[vF.low h 0 (by omega)]
theorem FV.vE{A:Int->fO}{s q:qL}(h:FV A s q):vE q=vE s:=by unfold Mt.vE;rw[vF.low h 1 (by omega)]
theorem Xz{a} t{s q}(h:vF a s q) k(O:0<=k)(U:k<10):(bV t q k).2=(bV t s k).2/\((bV t s k).2=true->vF a (bV t s k).1 (bV t q k).1/\gt (bV t s k).1 0=gt s 0+1):=by
 have j:=h.low (2+(2*k).toNat) (by omega);have G:=h.low (2+(2*k+1).toNat) (by omega);have I:=h.low 1 (by omega);have J:=h.low 0 (by omega);unfold bV;rw[j,G,I,J];split
 ·exact⟨rfl,λe=>by cases e⟩
 split
 ·exact⟨rfl,λe=>by cases e⟩
 ·refine⟨rfl,λ_=>⟨(h.Eu 1 (by omega) _).Eu 0 (by omega) _,?_⟩⟩;have:=h.ls;exact qD _ _ _ (by rw[gY];omega)
theorem fC{c A}(I:Known c A){q}(J:q<c.length)(G:(c.getD q kC).op≠13):q+1<c.length/\Rule A q (c.getD q kC):=by
 have j:q+1<c.length:=by
  rcases wZ (q+1) c.length with h | h
  ·exact h
  ·exfalso;have e:q=c.length-1:=by omega
   rw[e]at G;exact G I.last
 exact⟨j,I.rule q j⟩
theorem zAr{c}{A}{t}{s q}(a8:Known c A)(a6:Good c.length t.size s)(h:FV A s q)(c7:(c.getD (zX s) kC).op≠2)(c5:(c.getD (zX s) kC).op≠11)(c6:(c.getD (zX s) kC).op≠12)(b7:(c.getD (zX s) kC).op≠13):
  (kW t q (c.getD (zX s) kC)).2=(kW t s (c.getD (zX s) kC)).2/\((kW t s (c.getD (zX s) kC)).2=true->FV A (kW t s (c.getD (zX s) kC)).1 (kW t q (c.getD (zX s) kC)).1):=by
 obtain⟨c8,b0⟩:=fC a8 a6.yS b7;have a2:=a8.ok (zX s) a6.yS;have b8:((zX s:Nat):Int)=gt s 0:=by have:=a6.Ai;unfold zX;omega
 rw[b8]at b0;generalize c.getD (zX s) kC=x at *;obtain⟨a5,d2,b9,c0,c1,c2,c3,d0,d1,d3,d4,b3,d5⟩:=b0;have I:=vF.low h 0 (by omega);have G:=vF.low h 1 (by omega);unfold kW;by_cases a3:x.op=1
 ·rw[lG a3,lG a3];dsimp only;rw[I,G];refine⟨rfl,λ_=>FV.jump (s:=s.set 1 _) ?_ ?_⟩
  ·have:FV A (s.set 1 (gt s 1+1)) (q.set 1 (gt s 1+1)):=by
    show vF _ _ _;rw[zQ _ _ _ _ (by omega)];exact vF.Eu h 1 (by omega) _
   exact this
  ·rw[zQ _ _ _ _ (by omega)];exact a5 (by omega)
 rw[lC a3,lC a3];by_cases Z:x.op=3
 ·rw[lG Z,lG Z];exact⟨rfl,λ_=>FV.jump h (b9 Z)⟩
 rw[lC Z,lC Z];by_cases J:x.op=4
 ·rw[lG J,lG J];dsimp only;rw[I,G];obtain⟨j,W,a7⟩:=c0 J;have c9:=a2.2.2.1 J;refine⟨rfl,λ_=>vF.to ?_⟩;rw[W];exact vF.mark h x.x j (by omega) a7 b3 _
 rw[lC J,lC J];by_cases a0:x.op=5
 ·rw[lG a0,lG a0];dsimp only;obtain⟨j,W,a7,c4⟩:=c1 a0;rw[G,vF.marks h x.y.toNat (by omega)];refine⟨rfl,λ_=>vF.to ?_⟩;rw[j];exact vF.less h (λk Y=>Y) (by dsimp only;omega)
 rw[lC a0,lC a0];by_cases O:x.op=6
 ·rw[lG O,lG O];dsimp only;rw[I,G];obtain⟨j,W⟩:=c2 O;have b1:=a2.2.2.2.2.1 (.inl O);refine⟨rfl,λ_=>vF.to ?_⟩;rw[j];exact vF.note h x.x (by omega) b3 _
 rw[lC O,lC O];by_cases U:x.op=7
 ·rw[lG U,lG U];dsimp only;rw[I,G];obtain⟨g,j,W⟩:=c3 U;have b1:=a2.2.2.2.2.1 (.inr (.inl U));have b6:=vF.notes h x.x (by rw[j];exact iA ..);rw[b6];refine⟨rfl,λ_=>vF.to ?_⟩;rw[W];exact vF.less ((vF.Eu h (2+(2*x.x).toNat) (by omega) _).Eu (2+(2*x.x+1).toNat) (by omega) _) (λk Y=>by rw[j];exact uT _ Y) (by dsimp only;omega)
 rw[lC U,lC U];by_cases a1:x.op=8
 ·rw[lG a1,lG a1];have b1:=a2.2.2.2.2.1 (.inr (.inr a1));have a9:=Xz t (show vF (A (gt s 0)) s q from h) x.x (by omega) (by omega);refine⟨a9.1,λY=>?_⟩;obtain⟨b4,b5⟩:=a9.2 Y;show vF (A (gt _ 0)) _ _;rw[b5,a5 (by omega)];exact b4
 rw[lC a1,lC a1];by_cases a4:x.op=9
 ·rw[lG a4,lG a4];dsimp only;rw[I,G];exact⟨rfl,λ_=>FV.jump h (a5 (by omega))⟩
 rw[lC a4,lC a4];by_cases b2:x.op=10
 ·rw[lG b2,lG b2];dsimp only;rw[I,G];exact⟨rfl,λ_=>FV.jump h (a5 (by omega))⟩
 ·exfalso;omega
theorem zCO{E:Env}{A s q}(I:Known E.c A)(J:∀p,p<E.c.length->E.ar.getD p 0=jY E.c p)(j:Good E.c.length E.t.size s)(h:FV A s q):E.key q=E.key s/\E.isIn q=E.isIn s:=by
 unfold Env.key Env.isIn;rw[h.zX,h.vE];refine⟨?_,rfl⟩;unfold keyOf;congr 1;unfold ZW kR;refine aK (λW G=>?_);rw[wK]at G;have U:((zX s:Nat):Int)=gt s 0:=by have:=j.Ai;unfold zX;omega
 have O:=I.loops (zX s) j.yS;rw[U]at O;rw[J _ j.yS]at G;rw[vF.low h 1 (by omega),vF.marks h W (by omega)]
def fG(E:Env):Nat->List qL->List Bool->Int->Xp
 | n,[],kn,zA=>⟨[],false,n,kn,zA,false⟩
 | n,s::st,kn,zA=>if(zS E n s kn zA).ok||(zS E n s kn zA).kI then zS E n s kn zA else fG E (zS E n s kn zA).n st (zS E n s kn zA).kn (zS E n s kn zA).zA
theorem Fv E s h kn zA:fG E 0 (s::h) kn zA=⟨s,false,0,kn,zA,true⟩:=rfl
theorem Uo E n s j kn zA(G:E.dead s kn=true):fG E (n+1) (s::j) kn zA=fG E n j (E.qK s kn zA) (E.zG s kn zA):=by
 have h:=xA E n s kn zA;rw[lG G]at h;rw[fG,h];rfl
theorem XA E n s I kn zA(j:E.dead s kn=false)(G:(E.ins s).op=13\/(E.ins s).op=12):fG E (n+1) (s::I) kn zA=⟨s,true,n,E.qK s kn zA,E.zG s kn zA,false⟩:=by
 have h:=xA E n s kn zA;rw[lC (by rw[j];exact oF),lG G]at h;rw[fG,h];rfl
theorem RF E n s G kn zA(I:E.dead s kn=false)(J:(E.ins s).op=2):fG E (n+1) (s::G) kn zA=fG E n (s.set 0 (E.ins s).x::s.set 0 (E.ins s).y::G) (E.qK s kn zA) (E.zG s kn zA):=by
 have j:=xA E n s kn zA;rw[lC (by rw[I];exact oF),lC (by omega),lG J]at j;rw[fG,j,fG];dsimp only;generalize zS E n (s.set 0 (E.ins s).x) (E.qK s kn zA) (E.zG s kn zA)=r;by_cases h:(r.ok||r.kI)=true
 ·rw[lG h,lG h,lG h]
 ·rw[lC h,lC h,fG]
theorem RG E n s G kn zA(I:E.dead s kn=false)(O:(E.ins s).op≠2)(J:(E.ins s).op≠11)(U:(E.ins s).op≠12)(W:(E.ins s).op≠13):
  fG E (n+1) (s::G) kn zA=fG E n ((if(kW E.t s (E.ins s)).2 then[(kW E.t s (E.ins s)).1]else[])++G) (E.qK s kn zA) (E.zG s kn zA):=by
 have j:=xA E n s kn zA;rw[lC (by rw[I];exact oF),lC (by omega),lC O,lC J]at j;rw[fG,j];by_cases h:(kW E.t s (E.ins s)).2=true
 ·rw[lG h,lG h];rfl
 ·rw[lC h,lC h];rfl
theorem XB E n s I kn zA(J:E.dead s kn=false)(O:(E.ins s).op=11):fG E (n+1) (s::I) kn zA=
  if(zS E n (s.set 0 (gt s 0+1)) (E.qK s kn zA) (E.zG s kn zA)).kI then⟨s,false,(zS E n (s.set 0 (gt s 0+1)) (E.qK s kn zA) (E.zG s kn zA)).n,(zS E n (s.set 0 (gt s 0+1)) (E.qK s kn zA) (E.zG s kn zA)).kn,(zS E n (s.set 0 (gt s 0+1)) (E.qK s kn zA) (E.zG s kn zA)).zA,true⟩
  else fG E (zS E n (s.set 0 (gt s 0+1)) (E.qK s kn zA) (E.zG s kn zA)).n ((if(jG s (E.ins s) (zS E n (s.set 0 (gt s 0+1)) (E.qK s kn zA) (E.zG s kn zA)).st (zS E n (s.set 0 (gt s 0+1)) (E.qK s kn zA) (E.zG s kn zA)).ok).2 then[(jG s (E.ins s) (zS E n (s.set 0 (gt s 0+1)) (E.qK s kn zA) (E.zG s kn zA)).st (zS E n (s.set 0 (gt s 0+1)) (E.qK s kn zA) (E.zG s kn zA)).ok).1]else[])++I)
   (zS E n (s.set 0 (gt s 0+1)) (E.qK s kn zA) (E.zG s kn zA)).kn (zS E n (s.set 0 (gt s 0+1)) (E.qK s kn zA) (E.zG s kn zA)).zA:=by
 have G:=xA E n s kn zA;rw[lC (by rw[J];exact oF),lC (by omega),lC (by omega),lG O]at G;rw[fG,G];clear G;dsimp only;generalize zS E n (s.set 0 (gt s 0+1)) (E.qK s kn zA) (E.zG s kn zA)=r;by_cases j:r.kI=true
 ·rw[lG j,lG j];rfl
 ·rw[lC j,lC j];by_cases h:(jG s (E.ins s) r.st r.ok).2=true
  ·rw[lG h,lG h];rfl
  ·rw[lC h,lC h];rfl
theorem XC E n s kn zA:(fG E n [s] kn zA).ok=(zS E n s kn zA).ok/\(fG E n [s] kn zA).kI=(zS E n s kn zA).kI/\(fG E n [s] kn zA).n=(zS E n s kn zA).n/\(fG E n [s] kn zA).kn=(zS E n s kn zA).kn/\(fG E n [s] kn zA).zA=(zS E n s kn zA).zA/\((zS E n s kn zA).ok=true->(fG E n [s] kn zA).st=(zS E n s kn zA).st):=by
 rw[fG];generalize zS E n s kn zA=r;split
 ·exact⟨rfl,rfl,rfl,rfl,rfl,λ_=>rfl⟩
 ·rename_i h
  simp only[Bool.or_eq_true,not_or,Bool.not_eq_true]at h;refine⟨h.1.symm,h.2.symm,rfl,rfl,rfl,λe=>?_⟩;rw[h.1]at e;cases e
theorem Fw E A(W:Known E.c A):∀N n s kn zA,n<=N->Good E.c.length E.t.size s->0<=zA/\zA<=5000->(zS E n s kn zA).ok=true->
  (A (gt (zS E n s kn zA).st 0)).y=(A (gt s 0)).y/\(∀k∈(A (gt s 0)).B,gt (zS E n s kn zA).st (22+k.toNat)=gt s (22+k.toNat))/\((E.ins (zS E n s kn zA).st).op=12\/(E.ins (zS E n s kn zA).st).op=13)
 | N,0,s,kn,zA,_,h,hr,ho=>by rw[mF]at ho;cases ho
 | 0,n+1,s,kn,zA,hn,_,_,_=>by omega
 | N+1,n+1,s,kn,zA,hn,h,hrm,ho=>by
  have c3:∀(n:Nat) (s:qL) (kn:List Bool) (zA:Int),n<=N->Good E.c.length E.t.size s->0<=zA/\zA<=5000->(zS E n s kn zA).ok=true->
   (A (gt (zS E n s kn zA).st 0)).y=(A (gt s 0)).y/\(∀k∈(A (gt s 0)).B,gt (zS E n s kn zA).st (22+k.toNat)=gt s (22+k.toNat))/\((E.ins (zS E n s kn zA).st).op=12\/(E.ins (zS E n s kn zA).st).op=13):=Fw E A W N
  have b0:∀(n:Nat) (u:qL) (kn:List Bool) (zA:Int),n<=N->Good E.c.length E.t.size u->0<=zA/\zA<=5000->(zS E n u kn zA).ok=true->(A (gt u 0)).y=(A (gt s 0)).y->(A (gt u 0)).B=(A (gt s 0)).B->(∀k∈(A (gt s 0)).B,gt u (22+k.toNat)=gt s (22+k.toNat))->
   (A (gt (zS E n u kn zA).st 0)).y=(A (gt s 0)).y/\(∀k∈(A (gt s 0)).B,gt (zS E n u kn zA).st (22+k.toNat)=gt s (22+k.toNat))/\((E.ins (zS E n u kn zA).st).op=12\/(E.ins (zS E n u kn zA).st).op=13):=λn u kn zA d4 d5 d6 d7 d8 d9 e0=>by
   obtain⟨a,b,c⟩:=c3 n u kn zA d4 d5 d6 d7;exact⟨a.trans d8,λk j=>(b k (by rw[d9];exact j)).trans (e0 k j),c⟩
  rw[xA]at ho |-;have a1:=E.nX s kn zA hrm;have f4:=h.len;have e1:((zX s:Nat):Int)=gt s 0:=by have:=h.Ai;unfold zX;omega
  by_cases b8:E.dead s kn=true
  ·rw[lG b8]at ho;cases ho
  rw[lC b8]at ho |-;by_cases a8:(E.ins s).op=13\/(E.ins s).op=12
  ·rw[lG a8];exact⟨rfl,λ_ _=>rfl,a8.symm⟩
  rw[lC a8]at ho |-;have c1:(E.c.getD (zX s) kC).op≠13:=λe=>a8 (.inl e)
  obtain⟨f5,Y⟩:=fC W h.yS c1;have a2:=W.ok (zX s) h.yS;rw[e1]at Y;have f6:=h.Ai;have J:∀v,gt (s.set 0 v) 0=v:=λv=>qD _ _ _ (by omega)
  have U:∀(v:Int) (k:Int),gt (s.set 0 v) (22+k.toNat)=gt s (22+k.toNat):=λv k=>zQ _ _ _ _ (by omega)
  by_cases a5:(E.ins s).op=2
  ·rw[lG a5]at ho |-;have Z:=a2.1 a5;obtain⟨a7,a0⟩:=Y.2.1 a5;have O:=yK E W.ok N n (s.set 0 (E.ins s).x) (E.qK s kn zA) (E.zG s kn zA) (by omega) (h.dY _ Z.1 Z.2.1) a1;have e4:=xE E n (s.set 0 (E.ins s).x) (E.qK s kn zA) (E.zG s kn zA);have a3:=b0 n (s.set 0 (E.ins s).x) (E.qK s kn zA) (E.zG s kn zA) (by omega) (h.dY _ Z.1 Z.2.1) a1;dsimp only at ho |-;generalize zS E n (s.set 0 (E.ins s).x) (E.qK s kn zA) (E.zG s kn zA)=r at *;by_cases c0:(r.ok||r.kI)=true
   ·rw[lG c0]at ho |-;exact a3 ho (by rw[J];exact rJ fO.y a7) (by rw[J];exact rJ fO.B a7) (λk j=>U _ k)
   ·rw[lC c0]at ho |-;exact b0 r.n (s.set 0 (E.ins s).y) r.kn r.zA (by omega) (h.dY _ Z.2.2.1 Z.2.2.2) O.2.2.1 ho (by rw[J];exact rJ fO.y a0) (by rw[J];exact rJ fO.B a0) (λk j=>U _ k)
  rw[lC a5]at ho |-;by_cases a4:(E.ins s).op=11
  ·rw[lG a4]at ho |-;have c2:=a2.2.2.2.2.2.1 a4;obtain⟨a7,a0,f0,f1⟩:=Y.2.2.2.2.2.2.2.1 a4;have b7:=h.dY (gt s 0+1) (by omega) (by omega);have O:=yK E W.ok N n (s.set 0 (gt s 0+1)) (E.qK s kn zA) (E.zG s kn zA) (by omega) b7 a1;have e4:=xE E n (s.set 0 (gt s 0+1)) (E.qK s kn zA) (E.zG s kn zA);have a3:=c3 n (s.set 0 (gt s 0+1)) (E.qK s kn zA) (E.zG s kn zA) (by omega) b7 a1;rw[J,a7]at a3;dsimp only at ho a3 |-;generalize zS E n (s.set 0 (gt s 0+1)) (E.qK s kn zA) (E.zG s kn zA)=r at *;by_cases b9:r.kI=true
   ·rw[lG b9]at ho;cases ho
   rw[lC b9]at ho |-;by_cases j:(jG s (E.ins s) r.st r.ok).2=true
   ·rw[lG j]at ho |-;have d2:=jc h O.1 (E.ins s) c2.1 c2.2.1 j
    have pa:gt (jG s (E.ins s) r.st r.ok).1 0=(E.ins s).y/\∀k∈(A (gt s 0)).G,gt (jG s (E.ins s) r.st r.ok).1 (22+k.toNat)=gt s (22+k.toNat):=by
     unfold jG at j |-;by_cases c9:(E.ins s).x=0
     ·rw[lG c9]at j |-;refine⟨qD _ _ _ (by rw[O.2.2.2.1];omega),λk I=>?_⟩;dsimp only;rw[zQ _ _ _ _ (by omega),(a3 j).2.1 k I,U]
     rw[lC c9]at j |-;by_cases d0:(E.ins s).x=1
     ·rw[lG d0]at j |-;refine⟨qD _ _ _ (by rw[pF s r.st h.len O.2.2.2.1];omega),λk I=>?_⟩;dsimp only;rw[zQ _ _ _ _ (by omega),bC s r.st h.len O.2.2.2.1,lC (by omega)]
     ·rw[lC d0];exact⟨J _,λk I=>U _ k⟩
    exact b0 r.n _ r.kn r.zA (by omega) d2 O.2.2.1 ho (by rw[pa.1];exact rJ fO.y a0) (by rw[pa.1];exact rJ fO.B a0) (λk I=>pa.2 k (Y.2.2.2.2.2.2.2.2.2.1 k I))
   ·rw[lC j]at ho;cases ho
  rw[lC a4]at ho |-;by_cases j:(kW E.t s (E.ins s)).2=true
  ·rw[lG j]at ho |-;have d3:=yu W.ok h (t:=E.t) a5 a4 c1 j
   have pa:(A (gt (kW E.t s (E.ins s)).1 0)).y=(A (gt s 0)).y/\(A (gt (kW E.t s (E.ins s)).1 0)).B=(A (gt s 0)).B/\∀k∈(A (gt s 0)).B,gt (kW E.t s (E.ins s)).1 (22+k.toNat)=gt s (22+k.toNat):=by
    have e2:E.ins s=E.c.getD (zX s) kC:=rfl;rw[<-e2]at Y a2;generalize E.ins s=x at *;obtain⟨b2,f9,e6,e7,e8,c7,e9,f7,f8,b6,g0,c8,g1⟩:=Y;have b1:∀(i:Nat) (u v:Int),gt ((s.set i u).set 0 v) 0=v:=λi u v=>qD _ _ _ (by rw[gY];omega)
    unfold kW at j |-;by_cases c4:x.op=1
    ·rw[lG c4];dsimp only;rw[b1,b2 (by omega)];exact⟨rfl,rfl,λk I=>by rw[zQ _ _ _ _ (by omega),zQ _ _ _ _ (by omega)]⟩
    rw[lC c4]at j |-;by_cases b3:x.op=3
    ·rw[lG b3];dsimp only;rw[J,e6 b3];exact⟨rfl,rfl,λk I=>U _ k⟩
    rw[lC b3]at j |-;by_cases b4:x.op=4
    ·rw[lG b4];dsimp only;rw[b1,(e7 b4).2.1];exact⟨rfl,rfl,λk I=>by have:=c8 k (b6 k I);rw[zQ _ _ _ _ (by omega),zQ _ _ _ _ (by omega)]⟩
    rw[lC b4]at j |-;by_cases b5:x.op=5
    ·rw[lG b5];dsimp only;rw[J,(e8 b5).1];exact⟨rfl,rfl,λk I=>U _ k⟩
    rw[lC b5]at j |-;by_cases a6:x.op=6
    ·rw[lG a6];dsimp only;have e3:=a2.2.2.2.2.1 (.inl a6);rw[b1,(c7 a6).1];refine⟨rfl,rfl,λk I=>?_⟩;have O:=c8 k (b6 k I);have f3:x.x≠k:=λe=>(c7 a6).2 (by rw[e];exact b6 k I)
     rw[zQ _ _ _ _ (by omega),zQ _ _ _ _ (by omega)]
    rw[lC a6]at j |-;by_cases a9:x.op=7
    ·rw[lG a9];dsimp only;have e3:=a2.2.2.2.2.1 (.inr (.inl a9));obtain⟨g,f2,d1⟩:=e9 a9;have:gt (((s.set (2+(2*x.x).toNat) (gt s (22+x.x.toNat))).set (2+(2*x.x+1).toNat) (gt s 1)).set 0 (gt s 0+1)) 0=gt s 0+1:=qD _ _ _ (by rw[gY,gY];omega);rw[this,d1];exact⟨rfl,rfl,λk I=>by rw[zQ _ _ _ _ (by omega),zQ _ _ _ _ (by omega),zQ _ _ _ _ (by omega)]⟩
    rw[lC a9]at j |-;by_cases c5:x.op=8
    ·rw[lG c5]at j |-;unfold bV at j |-;split at j
     ·cases j
     split at j
     ·cases j
     rename_i u1 u2
     rw[lC u1,lC u2];dsimp only;rw[b1,b2 (by omega)];exact⟨rfl,rfl,λk I=>by rw[zQ _ _ _ _ (by omega),zQ _ _ _ _ (by omega)]⟩
    rw[lC c5]at j |-;by_cases c6:x.op=9
    ·rw[lG c6];dsimp only;rw[J,b2 (by omega)];exact⟨rfl,rfl,λk I=>U _ k⟩
    rw[lC c6]at j |-;by_cases e5:x.op=10
    ·rw[lG e5];dsimp only;rw[J,b2 (by omega)];exact⟨rfl,rfl,λk I=>U _ k⟩
    ·exfalso;omega
   exact b0 n _ _ _ (by omega) d3 a1 ho pa.1 pa.2.1 pa.2.2
  ·rw[lC j]at ho;cases ho
