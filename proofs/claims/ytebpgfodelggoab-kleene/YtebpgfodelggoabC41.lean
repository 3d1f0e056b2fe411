import Derived.Test.YtebpgfodelggoabC05
set_option linter.unusedVariables false
set_option linter.unusedSimpArgs false
namespace Mt
def optM (x:Re) (d:Int) (f:Nat→Ins):Nat→Nat→Int→List Ins
 | 0,_,_=>[]
 | n+1,i,p=>f i::(x.code (p+1) d++optM x d f n (i+1) (p+((x.len+1:Nat):Int)))
theorem optM_len (x:Re) (d:Int) (f:Nat→Ins):∀ (n i:Nat) (p:Int),(optM x d f n i p).length=n*(x.len+1)
 | 0,_,_=>by simp [optM]
 | n+1,i,p=>by rw [optM,List.length_cons,List.length_append,Re.code_len,optM_len x d f n,Nat.add_mul];omega
theorem optM_congr (x:Re) (d:Int) (f f':Nat→Ins):∀ (n i:Nat) (p:Int),(∀ m,i≤m→m<i+n→f m=f' m)→optM x d f n i p=optM x d f' n i p
 | 0,_,_,_=>rfl
 | n+1,i,p,h=>by rw [optM,optM,h i (Nat.le_refl _) (by omega),optM_congr x d f f' n (i+1) _ (fun m h1 h2=>h m (by omega) (by omega))]
theorem optM_snoc (x:Re) (d:Int) (f:Nat→Ins):∀ (n i:Nat) (p:Int),optM x d f (n+1) i p=optM x d f n i p++[f (i+n)]++x.code (p+((n*(x.len+1):Nat):Int)+1) d
 | 0,i,p=>by simp [optM]
 | n+1,i,p=>by
  rw [optM,optM_snoc x d f n (i+1),optM,Nat.add_mul]
  simp only [List.cons_append,List.append_assoc]
  rw [show i+1+n=i+(n+1) by omega,show p+((x.len+1:Nat):Int)+((n*(x.len+1):Nat):Int)+1=p+((n*(x.len+1)+1*(x.len+1):Nat):Int)+1 by push_cast;omega]
theorem optM_set (x:Re) (d:Int) (f:Nat→Ins) (v:Ins):∀ (n j i:Nat) (p:Int),j<n→(optM x d f n i p).set (j*(x.len+1)) v=optM x d (fun m=>if m=i+j then v else f m) n i p
 | 0,_,_,_,h=>by omega
 | n+1,0,i,p,h=>by
  rw [optM,optM,Nat.zero_mul,List.set_cons_zero,if_pos (by omega),optM_congr x d f (fun m=>if m=i+0 then v else f m) n (i+1) _ (fun m h1 h2=>by rw [if_neg (by omega)])]
 | n+1,j+1,i,p,h=>by
  rw [optM,optM,if_neg (by omega),Nat.add_mul,Nat.one_mul,show j*(x.len+1)+(x.len+1)=(x.len+j*(x.len+1))+1 by omega,List.set_cons_succ,List.set_append_right _ _ (by rw [Re.code_len];omega),Re.code_len,
   show x.len+j*(x.len+1)-x.len=j*(x.len+1) by omega,optM_set x d f v n j (i+1) _ (by omega)]
  rw [show i+1+j=i+(j+1) by omega]
theorem optM_optA (x:Re) (d:Int) (late:Bool) (f:Nat→Ins):∀ (n i:Nat) (p:Int),(∀ m,m<n→f (i+m)=spl (p+((m*(x.len+1):Nat):Int)+1) (p+((n*(x.len+1):Nat):Int)) late)→optM x d f n i p=(optA x late n).code p d
 | 0,_,_,_=>rfl
 | n+1,i,p,h=>by
  rw [optM,optA,Re.code,Re.code]
  have h0:=h 0 (by omega)
  rw [Nat.add_zero] at h0
  rw [h0,Re.len,optA_len]
  have e1:p+((0*(x.len+1):Nat):Int)+1=p+1:=by simp
  have e2:p+(((n+1)*(x.len+1):Nat):Int)=p+((x.len+n*(x.len+1):Nat):Int)+1:=by rw [Nat.add_mul];push_cast;omega
  have e3:p+((x.len+1:Nat):Int)=p+1+(x.len:Int):=by push_cast;omega
  rw [e1,e2,optM_optA x d late f n (i+1) _ (fun m hm=>?_),e3]
  have:=h (m+1) (by omega)
  rw [show i+1+m=i+(m+1) by omega,this]
  have e4:p+(((m+1)*(x.len+1):Nat):Int)=p+((x.len+1:Nat):Int)+((m*(x.len+1):Nat):Int):=by rw [Nat.add_mul];push_cast;omega
  have e5:p+(((n+1)*(x.len+1):Nat):Int)=p+((x.len+1:Nat):Int)+((n*(x.len+1):Nat):Int):=by rw [Nat.add_mul];push_cast;omega
  rw [e4,e5]
def splitsL (p m:Nat) (k:Nat):List Nat:=(List.range k).map fun i=>p+i*m
theorem splitsL_len (p m k:Nat):(splitsL p m k).length=k:=by simp [splitsL]
theorem splitsL_next (p m k:Nat):splitsL p m (k+1)=splitsL p m k++[p+k*m]:=by simp [splitsL,List.range_succ]
theorem splitsL_at (p m k j:Nat) (h:j<k):(splitsL p m k)[j]?=some (p+j*m):=by simp [splitsL,h]
end Mt
