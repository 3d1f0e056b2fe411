import Derived.Test.YtebpgfodelggoabGreatC19
set_option linter.unusedVariables false
set_option linter.unusedSimpArgs false
namespace Mt
def zC7 (x:Re) (d:Int) (f:Nat→Ins):Nat→Nat→Int→List Ins
 | 0,_,_=>[]
 | n+1,i,p=>f i::(x.code (p+1) d++zC7 x d f n (i+1) (p+((x.len+1:Nat):Int)))
theorem zHB (x:Re) (d:Int) (f:Nat→Ins):∀ (n i:Nat) (p:Int),(zC7 x d f n i p).length=n*(x.len+1)
 | 0,_,_=>by simp [zC7]
 | n+1,i,p=>by rw [zC7,List.length_cons,List.length_append,Re.zH,zHB x d f n,Nat.add_mul];omega
theorem zCV (x:Re) (d:Int) (f f':Nat→Ins):∀ (n i:Nat) (p:Int),(∀ m,i≤m→m<i+n→f m=f' m)→zC7 x d f n i p=zC7 x d f' n i p
 | 0,_,_,_=>rfl
 | n+1,i,p,h=>by rw [zC7,zC7,h i (Nat.le_refl _) (by omega),zCV x d f f' n (i+1) _ (fun m h1 h2=>h m (by omega) (by omega))]
theorem zIS (x:Re) (d:Int) (f:Nat→Ins):∀ (n i:Nat) (p:Int),zC7 x d f (n+1) i p=zC7 x d f n i p++[f (i+n)]++x.code (p+((n*(x.len+1):Nat):Int)+1) d
 | 0,i,p=>by simp [zC7]
 | n+1,i,p=>by
  rw [zC7,zIS x d f n (i+1),zC7,Nat.add_mul]
  simp only [List.cons_append,List.append_assoc]
  rw [show i+1+n=i+(n+1) by omega,show p+((x.len+1:Nat):Int)+((n*(x.len+1):Nat):Int)+1=p+((n*(x.len+1)+1*(x.len+1):Nat):Int)+1 by push_cast;omega]
theorem zKV (x:Re) (d:Int) (f:Nat→Ins) (v:Ins):∀ (n j i:Nat) (p:Int),j<n→(zC7 x d f n i p).set (j*(x.len+1)) v=zC7 x d (fun m=>if m=i+j then v else f m) n i p
 | 0,_,_,_,h=>by omega
 | n+1,0,i,p,h=>by
  rw [zC7,zC7,Nat.zero_mul,List.set_cons_zero,if_pos (by omega),zCV x d f (fun m=>if m=i+0 then v else f m) n (i+1) _ (fun m h1 h2=>by rw [if_neg (by omega)])]
 | n+1,j+1,i,p,h=>by
  rw [zC7,zC7,if_neg (by omega),Nat.add_mul,Nat.one_mul,show j*(x.len+1)+(x.len+1)=(x.len+j*(x.len+1))+1 by omega,List.set_cons_succ,List.set_append_right _ _ (by rw [Re.zH];omega),Re.zH,
   show x.len+j*(x.len+1)-x.len=j*(x.len+1) by omega,zKV x d f v n j (i+1) _ (by omega)]
  rw [show i+1+j=i+(j+1) by omega]
theorem zIT (x:Re) (d:Int) (late:Bool) (f:Nat→Ins):∀ (n i:Nat) (p:Int),(∀ m,m<n→f (i+m)=spl (p+((m*(x.len+1):Nat):Int)+1) (p+((n*(x.len+1):Nat):Int)) late)→zC7 x d f n i p=(zBJ x late n).code p d
 | 0,_,_,_=>rfl
 | n+1,i,p,h=>by
  rw [zC7,zBJ,Re.code,Re.code]
  have h0:=h 0 (by omega)
  rw [Nat.add_zero] at h0
  rw [h0,Re.len,zCN]
  have e1:p+((0*(x.len+1):Nat):Int)+1=p+1:=by simp
  have e2:p+(((n+1)*(x.len+1):Nat):Int)=p+((x.len+n*(x.len+1):Nat):Int)+1:=by rw [Nat.add_mul];push_cast;omega
  have e3:p+((x.len+1:Nat):Int)=p+1+(x.len:Int):=by push_cast;omega
  rw [e1,e2,zIT x d late f n (i+1) _ (fun m hm=>?_),e3]
  have:=h (m+1) (by omega)
  rw [show i+1+m=i+(m+1) by omega,this]
  have e4:p+(((m+1)*(x.len+1):Nat):Int)=p+((x.len+1:Nat):Int)+((m*(x.len+1):Nat):Int):=by rw [Nat.add_mul];push_cast;omega
  have e5:p+(((n+1)*(x.len+1):Nat):Int)=p+((x.len+1:Nat):Int)+((n*(x.len+1):Nat):Int):=by rw [Nat.add_mul];push_cast;omega
  rw [e4,e5]
def vM (p m:Nat) (k:Nat):List Nat:=(List.range k).map fun i=>p+i*m
theorem zDl (p m k:Nat):(vM p m k).length=k:=by simp [vM]
theorem zIU (p m k:Nat):vM p m (k+1)=vM p m k++[p+k*m]:=by simp [vM,List.range_succ]
theorem zL0 (p m k j:Nat) (h:j<k):(vM p m k)[j]?=some (p+j*m):=by simp [vM,h]
end Mt
