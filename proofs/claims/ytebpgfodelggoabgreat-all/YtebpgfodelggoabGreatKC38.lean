import Derived.Test.YtebpgfodelggoabGreatKC18
set_option linter.unusedVariables false
set_option linter.unusedSimpArgs false
namespace Mt
def zBg(x:Re)(d:Int)(f:Nat->zTG):Nat->Nat->Int->List zTG
 | 0,_,_=>[]
 | n+1,i,p=>f i::(x.code (p+1) d++zBg x d f n (i+1) (p+((x.len+1:Nat):Int)))
theorem zFY(x:Re)(d:Int)(f:Nat->zTG):∀(n i:Nat) (p:Int),(zBg x d f n i p).length=n*(x.len+1)
 | 0,_,_=>by simp[zBg]
 | n+1,i,p=>by rw[zBg,List.length_cons,lM,Re.zQ,zFY x d f n,Nat.add_mul];omega
theorem zA3(x:Re)(d:Int)(f f':Nat->zTG):∀(n i:Nat) (p:Int),(∀m,i<=m->m<i+n->f m=f' m)->zBg x d f n i p=zBg x d f' n i p
 | 0,_,_,_=>rfl
 | n+1,i,p,h=>by rw[zBg,zBg,h i (lG _) (by omega),zA3 x d f f' n (i+1) _ (λm h1 h2=>h m (by omega) (by omega))]
theorem zHj(x:Re)(d:Int)(f:Nat->zTG):∀(n i:Nat) (p:Int),zBg x d f (n+1) i p=zBg x d f n i p++[f (i+n)]++x.code (p+((n*(x.len+1):Nat):Int)+1) d
 | 0,i,p=>by simp[zBg]
 | n+1,i,p=>by
  rw[zBg,zHj x d f n (i+1),zBg,Nat.add_mul];simp only[List.cons_append,List.append_assoc];rw[show i+1+n=i+(n+1) by omega,show p+((x.len+1:Nat):Int)+((n*(x.len+1):Nat):Int)+1=p+((n*(x.len+1)+1*(x.len+1):Nat):Int)+1 by push_cast;omega]
theorem zJo(x:Re)(d:Int)(f:Nat->zTG)(v:zTG):∀(n j i:Nat) (p:Int),j<n->(zBg x d f n i p).set (j*(x.len+1)) v=zBg x d (λm=>if m=i+j then v else f m) n i p
 | 0,_,_,_,h=>by omega
 | n+1,0,i,p,h=>by
  rw[zBg,zBg,Nat.zero_mul,lD,if_pos (by omega),zA3 x d f (λm=>if m=i+0 then v else f m) n (i+1) _ (λm h1 h2=>by rw[if_neg (by omega)])]
 | n+1,j+1,i,p,h=>by
  rw[zBg,zBg,if_neg (by omega),Nat.add_mul,Nat.one_mul,show j*(x.len+1)+(x.len+1)=(x.len+j*(x.len+1))+1 by omega,lF,List.set_append_right _ _ (by rw[Re.zQ];omega),Re.zQ,
   show x.len+j*(x.len+1)-x.len=j*(x.len+1) by omega,zJo x d f v n j (i+1) _ (by omega)]
  rw[show i+1+j=i+(j+1) by omega]
theorem zHk(x:Re)(d:Int)(late:Bool)(f:Nat->zTG):∀(n i:Nat) (p:Int),(∀m,m<n->f (i+m)=spl (p+((m*(x.len+1):Nat):Int)+1) (p+((n*(x.len+1):Nat):Int)) late)->zBg x d f n i p=(wG x late n).code p d
 | 0,_,_,_=>rfl
 | n+1,i,p,h=>by
  rw[zBg,wG,Re.code,Re.code];have h0:=h 0 (by omega);rw[Nat.add_zero]at h0;rw[h0,Re.len,zAU];have e1:p+((0*(x.len+1):Nat):Int)+1=p+1:=by simp
  have e2:p+(((n+1)*(x.len+1):Nat):Int)=p+((x.len+n*(x.len+1):Nat):Int)+1:=by rw[Nat.add_mul];push_cast;omega
  have e3:p+((x.len+1:Nat):Int)=p+1+(x.len:Int):=by push_cast;omega
  rw[e1,e2,zHk x d late f n (i+1) _ (λm hm=>?_),e3];have:=h (m+1) (by omega);rw[show i+1+m=i+(m+1) by omega,this];have e4:p+(((m+1)*(x.len+1):Nat):Int)=p+((x.len+1:Nat):Int)+((m*(x.len+1):Nat):Int):=by rw[Nat.add_mul];push_cast;omega
  have e5:p+(((n+1)*(x.len+1):Nat):Int)=p+((x.len+1:Nat):Int)+((n*(x.len+1):Nat):Int):=by rw[Nat.add_mul];push_cast;omega
  rw[e4,e5]
def pO(p m:Nat)(k:Nat):List Nat:=(List.range k).map λi=>p+i*m
theorem zBu(p m k:Nat):(pO p m k).length=k:=by simp[pO]
theorem zHl(p m k:Nat):pO p m (k+1)=pO p m k++[p+k*m]:=by simp[pO,List.range_succ]
theorem zKy(p m k j:Nat)(h:j<k):(pO p m k)[j]?=some (p+j*m):=by simp[pO,h]
