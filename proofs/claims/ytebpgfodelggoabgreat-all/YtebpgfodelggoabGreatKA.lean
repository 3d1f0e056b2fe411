universe u
theorem lC{α:Type u}(l:List α)(i:Nat)(a:α):l.toArray.setIfInBounds i a=(l.set i a).toArray:=List.setIfInBounds_toArray l i a
theorem lD{α:Type u}{x:α}{xs:List α}{a:α}:(x::xs).set 0 a=a::xs:=rfl
theorem lF{α:Type u}{x:α}{xs:List α}{i:Nat}{a:α}:(x::xs).set (i+1) a=x::xs.set i a:=rfl
theorem lG(n:Nat):n<=n:=Nat.le_refl n
theorem lH{α:Type u}{l:List α}{i:Nat}{a:α}:l.getD i a=l[i]?.getD a:=List.getD_eq_getElem?_getD
theorem lI{α:Type u}{i:Nat}{b:α}{xs:Array α}:xs[i]?=some b↔∃h,xs[i]=b:=Array.getElem?_eq_some_iff
theorem lJ{p:Prop}{x:Decidable p}:decide p=false↔¬p:=decide_eq_false_iff_not
theorem lK{α:Type u}{l:List α}{i:Nat}(h:i<l.length):l[i]?=some l[i]:=List.getElem?_eq_getElem h
theorem lM{α:Type u}{as bs:List α}:(as++bs).length=as.length+bs.length:=List.length_append
