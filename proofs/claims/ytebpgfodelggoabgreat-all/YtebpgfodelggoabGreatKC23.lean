import Derived.Test.YtebpgfodelggoabGreatKC00
import Derived.Test.YtebpgfodelggoabGreatKC18
set_option linter.unusedVariables false
set_option linter.unusedSimpArgs false
namespace Mt
abbrev tX:=Nat->Bool
def none0:tX:=λ_=>false
def bW(S:tX)(a b:Int):tX:=λc=>S c||(decide (a<=(c:Int))&&decide ((c:Int)<=b))
def nX(S:tX)(a b:Int)(k:Nat):tX:=λc=>if c<k then bW S a b c else S c
theorem zJ3(S:tX)(a b:Int):nX S a b 0=S:=by funext c;simp[nX]
theorem zLD(S:tX)(a b:Int)(k:Nat)(h:a<=(k:Int)/\(k:Int)<=b):nX S a b (k+1)=λc=>if c=k then true else nX S a b k c:=by
 funext c
 simp only[nX,bW];by_cases e:c=k
 ·subst e;simp[h]
 ·rw[if_neg e];by_cases l:c<k
  ·rw[if_pos (by omega),if_pos l]
  ·rw[if_neg (by omega),if_neg l]
theorem zEO(S:tX)(a b:Int)(k:Nat)(h:¬(a<=(k:Int)/\(k:Int)<=b)):nX S a b (k+1)=nX S a b k:=by
 funext c
 simp only[nX,bW];by_cases e:c=k
 ·subst e;rw[if_pos (by omega),if_neg (by omega)]
  have:(decide (a<=(c:Int))&&decide ((c:Int)<=b))=false:=by
   rw[<-Bool.decide_and];simpa using h
  rw[this];simp
 ·by_cases l:c<k
  ·rw[if_pos (by omega),if_pos l]
  ·rw[if_neg (by omega),if_neg l]
def zPm(S T:tX):Prop:=∀c,c<256->S c=T c
theorem zLE(S:tX)(a b:Int):zPm (nX S a b 256) (bW S a b):=λc h=>by simp[nX,h]
def zCS(S:tX)(k:Nat):tX:=λc=>if c<k then !S c else S c
theorem zJ4(S:tX)(k:Nat):zCS S (k+1)=λc=>if c=k then !(S k)else zCS S k c:=by
 funext c
 simp only[zCS];by_cases e:c=k
 ·subst e;simp
 ·rw[if_neg e];by_cases l:c<k
  ·rw[if_pos (by omega),if_pos l]
  ·rw[if_neg (by omega),if_neg l]
def yY(S:tX)(n:Nat):List UInt8:=((List.range n).filter S).map UInt8.ofNat
theorem zLF{S:tX}{n:Nat}(h:S n=true):yY S (n+1)=yY S n++[UInt8.ofNat n]:=by
 unfold yY;rw[List.range_succ,List.filter_append,List.map_append];congr 1;rw[List.filter_cons,if_pos h];rfl
theorem zJ5{S:tX}{n:Nat}(h:S n=false):yY S (n+1)=yY S n:=by
 unfold yY;rw[List.range_succ,List.filter_append,List.map_append,List.filter_cons,if_neg (by simp[h])];simp
theorem zLG(S:tX)(n:Nat):(yY S n).length<=n:=by
 unfold yY;rw[List.length_map];exact Nat.le_trans (List.length_filter_le _ _) (by simp)
theorem wL{S T:tX}(h:zPm S T):yY S 256=yY T 256:=by
 unfold yY;congr 1;apply List.filter_congr;intro c hc;exact h c (by simpa using hc)
theorem zBO(p:ByteArray)(a b:Int)(no:Bool):yY (λc=>jM p a b (c:Int) != no) 256=all p a b no:=rfl
theorem filter_one(c:Nat):∀n,(List.range n).filter (λk:Nat=>decide (k=c))=if c<n then[c]else[]
 | 0=>by simp
 | n+1=>by
  rw[List.range_succ,List.filter_append,filter_one c n];by_cases e:n=c
  ·subst e;simp
  ·by_cases l:c<n
   ·rw[if_pos l,if_pos (by omega)];simp[e]
   ·rw[if_neg l,if_neg (by omega)];simp[e]
theorem zLH(c:Int)(h0:0<=c)(h1:c<=255):yY (bW none0 c c) 256=[UInt8.ofNat c.toNat]:=by
 have:yY (bW none0 c c) 256=yY (λk=>decide (k=c.toNat)) 256:=by
  refine wL (λk hk=>?_);simp only[bW,none0,Bool.false_or];rw[<-Bool.decide_and];congr 1;exact propext ⟨λh=>by omega,λh=>by omega⟩
 rw[this];unfold yY;rw[filter_one,if_pos (by omega)];rfl
theorem zAd(p:ByteArray)(i c:Int):jM p i i c=false:=by rw[vQ,if_pos (Int.le_refl _)]
theorem zPn(p:ByteArray)(i:Int):yY (bW none0 0 255) 256=all p i i true:=by
 rw[<-zBO];refine wL (λk hk=>?_);rw[zAd];simp[bW,none0];omega
def zHD(S:tX)(w:Bool):tX:=if w then bW (bW (bW (bW S 48 57) 65 90) 95 95) 97 122 else bW S 48 57
theorem zEP(S:tX)(w:Bool)(c:Nat):zHD S w c=(S c||zAs w (c:Int)):=by
 unfold zHD zAs zBa zA6;cases w
 ·simp[bW]
 ·simp only[bW,if_true,Bool.true_and];by_cases h1:48<=(c:Int)/\(c:Int)<=57 <;> by_cases h2:65<=(c:Int)/\(c:Int)<=90 <;> by_cases h3:97<=(c:Int)/\(c:Int)<=122 <;> by_cases h4:(c:Int)=95
  all_goals
   simp only[<-Bool.decide_and];have h5:(95<=(c:Int)/\(c:Int)<=95)↔(c:Int)=95:=by omega
   simp only[h5,h1,h2,h3,h4];simp
def zKN(p:ByteArray)(i:Int)(S:tX):tX :=
 if(yB p i).2.2.2 then zHD S (decide ((yB p i).2.1=119))else bW S (yB p i).1 (yB p i).2.1
theorem zPo(p:ByteArray)(i b:Int)(S:tX)(c:Nat)(h:i<b)(h0:(yB p i).2.2.1≠0):(S c||jM p i b (c:Int))=(zKN p i S c||jM p (i+(yB p i).2.2.1) b (c:Int)):=by
 rw[vQ,if_neg (by omega),if_neg h0];unfold zKN;cases hw:(yB p i).2.2.2
 ·simp only[Bool.false_eq_true,if_false];by_cases h1:(yB p i).1<=(c:Int)/\(c:Int)<=(yB p i).2.1
  ·rw[if_pos h1];simp[bW,h1]
  ·rw[if_neg h1];have:(decide ((yB p i).1<=(c:Int))&&decide ((c:Int)<=(yB p i).2.1))=false:=by rw[<-Bool.decide_and];simpa using h1
   simp only[bW,this,Bool.or_false]
 ·simp only[if_true];rw[zEP];cases hs:zAs (decide ((yB p i).2.1=119)) (c:Int) <;> simp
structure PT where
 kind:Int
 en:Int
 group:Int
 number:Int
 least:Int
 most:Int
 fF:Int
 set:List UInt8
def pt0:PT:=⟨0,0,0,0,0,0,0,[]⟩
def zJ6(k:Int):Int:=if k=1 then 5 else if k=2 then 6 else if k=3 then 7 else if k=4 then 8 else if k=5 then 1 else if k=6 then 2 else if k=7 then 3 else if k=8 then 4 else 0
def zNJ(h:Int):Int:=if h=4 then 1 else if h=3 then 2 else h+3
def yC(t:zTD):PT :=
 ⟨zJ6 t.kind,t.to,if t.kind=6 then zNJ t.zTF else 0,if t.kind=2 then t.n else 0,if t.kind=8 then t.n else 0,if t.kind=8 then t.m else 0,if t.kind=8 then t.zTF+1 else 0,t.set⟩
def fI(p:ByteArray)(i:Int):PT × Int:=if(jJ p i).2=0 then(yC (jJ p i).1,0)else(pt0,(jJ p i).2)
structure PA where
 tok:PT
 num:Int
 rep:PT
 body:Int
 home:Int
 next:Int
structure PS where
 first:Int
 next:Int
structure PB where
 kN:List PS
 zG:List PA
 seq:Nat
 last:Int
 opn:List Nat
 kR:Nat
 clo:List Bool
def ps0:PS:=⟨-1,-1⟩
def pa0:PA:=⟨pt0,0,pt0,-1,0,-1⟩
def PB.zTO(b:PB)(k:Nat):PS:=b.kN.getD k ps0
def PB.zTP(b:PB)(k:Nat):PA:=b.zG.getD k pa0
def PB.start:PB:=⟨[ps0],[],0,-1,[],0,List.replicate 10 false⟩
def PB.zS(b:PB)(t:PT):PB :=
 if b.last=-1 then { b with zG:=b.zG++[(⟨t,0,pt0,-1,b.seq,-1⟩:PA)],kN:=b.kN.set b.seq ⟨b.zG.length,(b.zTO b.seq).next⟩,last:=b.zG.length }
 else { b with zG:=(b.zG++[(⟨t,0,pt0,-1,b.seq,-1⟩:PA)]).set b.last.toNat { b.zTP b.last.toNat with next:=b.zG.length },last:=b.zG.length }
def PB.bar(b:PB):PB:={ b with kN:=(b.kN++[ps0]).set b.seq ⟨(b.zTO b.seq).first,b.kN.length⟩,seq:=b.kN.length,last:=-1 }
def PB.number(b:PB)(g:Nat)(cap:Bool):PB:=if cap then { b with kR:=b.kR+1,zG:=b.zG.set g { b.zTP g with num:=(b.kR:Int)+1 } } else b
def PB.into(b:PB)(g:Nat):PB:={ b with opn:=b.opn++[g],kN:=b.kN++[ps0],zG:=b.zG.set g { b.zTP g with body:=b.kN.length },seq:=b.kN.length,last:=-1 }
def PB.kW(b:PB)(t:PT):PB:=((b.zS t).number b.zG.length (decide (t.group=1))).into b.zG.length
def PB.top(b:PB):Nat:=b.opn.getLastD 0
def PB.close(b:PB):PB:={ b with opn:=b.opn.dropLast,clo:=b.clo.set (b.zTP b.top).num.toNat true,seq:=(b.zTP b.top).home.toNat,last:=b.top }
def PB.repeated(b:PB)(t:PT):PB:={ b with zG:=b.zG.set b.last.toNat { b.zTP b.last.toNat with rep:=t } }
def PB.next(b:PB)(t:PT):PB :=
 if t.kind=1 then b.bar else if t.kind=2 then b.kW t else if t.kind=3 then b.close else if t.kind=4 then b.repeated t else b.zS t
def PB.err(b:PB)(t:PT):Int :=
 if t.kind=1 then 0
 else if t.kind=2 then(if 10<=b.opn.length then 8 else if t.group=1/\9<=b.kR then 9 else 0)
 else if t.kind=3 then(if b.opn.length=0 then 10 else 0)
 else if t.kind=4 then(if b.last=-1\/(b.zTP b.last.toNat).rep.kind≠0 then 7 else 0)
 else if t.kind=6 then(if(b.kR:Int)<t.number\/b.clo.getD t.number.toNat false=false then 6 else 0)
 else 0
def PB.run(b:PB)(l:List zTD):PB:=l.foldl (λb t=>b.next (yC t)) b
theorem PB.zPp(b:PB):b.run []=b:=rfl
theorem PB.zBP(b:PB)(t:zTD)(l:List zTD):b.run (t::l)=(b.next (yC t)).run l:=rfl
theorem PB.zFy(b:PB)(l m:List zTD):b.run (l++m)=(b.run l).run m:=by simp[PB.run]
theorem xX{α:Type}(l:List α)(i j:Nat)(v d:α):(l.set i v).getD j d=if i=j/\j<l.length then v else l.getD j d:=by
 rw[lH,List.getElem?_set,lH];by_cases h:i=j
 ·subst h;by_cases h2:i<l.length
  ·simp[h2]
  ·simp[h2]
 ·simp[h]
theorem qM{α:Type}(l:List α)(x:α)(j:Nat)(d:α):(l++[x]).getD j d=if j=l.length then x else l.getD j d:=by
 rw[lH,lH];by_cases h:j<l.length
 ·rw[List.getElem?_append_left h,if_neg (by omega)]
 ·rw[List.getElem?_append_right (by omega)];by_cases h2:j=l.length
  ·subst h2;simp
  ·rw[if_neg h2,List.getElem?_eq_none (by simp;omega),List.getElem?_eq_none (by omega)]
def rp(r:Option zTD):PT:=match r with
 | none=>pt0
 | some q=>yC q
def qG(b:PB)(lo slo:Nat):Fs->Int->Int->Prop
 | .nil,a,n=>a=-1/\n=-1
 | .bar t r,a,n=>a=-1/\∃k:Nat,n=k/\slo<=k/\k<b.kN.length/\qG b lo slo r (b.zTO k).first (b.zTO k).next
 | .leaf t r s,a,n=>∃k:Nat,a=k/\lo<=k/\k<b.zG.length/\(b.zTP k).tok=yC t/\(b.zTP k).rep=rp r/\(b.zTP k).body=-1/\qG b lo slo s (b.zTP k).next n
 | .grp t i c r s,a,n=>∃k:Nat,a=k/\lo<=k/\k<b.zG.length/\(b.zTP k).tok=yC t/\(b.zTP k).rep=rp r/\(b.zTP k).num=(if jO t then t.n else 0) /\
   (∃q:Nat,(b.zTP k).body=q/\slo<=q/\q<b.kN.length/\qG b lo slo i (b.zTO q).first (b.zTO q).next)/\qG b lo slo s (b.zTP k).next n
theorem xH{b c:PB}{lo slo lo' zRS:Nat}(hl:lo'<=lo)(hs:zRS<=slo)(h1:∀k,lo<=k->k<b.zG.length->c.zTP k=b.zTP k)(h2:∀k,slo<=k->k<b.kN.length->c.zTO k=b.zTO k)(h3:b.zG.length<=c.zG.length)(h4:b.kN.length<=c.kN.length) :
  ∀(f:Fs) (a n:Int),qG b lo slo f a n->qG c lo' zRS f a n
 | .nil,a,n,h=>h
 | .bar t r,a,n,⟨ha,k,hn,h5,h6,h7⟩=>⟨ha,k,hn,by omega,by omega,by rw[h2 k h5 h6];exact xH hl hs h1 h2 h3 h4 r _ _ h7⟩
 | .leaf t r s,a,n,⟨k,ha,h5,h6,h7,h8,h9,h10⟩=>⟨k,ha,by omega,by omega,by rw[h1 k h5 h6];exact h7,by rw[h1 k h5 h6];exact h8,by rw[h1 k h5 h6];exact h9,by rw[h1 k h5 h6];exact xH hl hs h1 h2 h3 h4 s _ _ h10⟩
 | .grp t i c' r s,a,n,⟨k,ha,h5,h6,h7,h8,h9,⟨q,g1,g2,g3,g4⟩,h10⟩ =>
  ⟨k,ha,by omega,by omega,by rw[h1 k h5 h6];exact h7,by rw[h1 k h5 h6];exact h8,by rw[h1 k h5 h6];exact h9,
   ⟨q,by rw[h1 k h5 h6];exact g1,by omega,by omega,by rw[h2 q g2 g3];exact xH hl hs h1 h2 h3 h4 i _ _ g4⟩,by rw[h1 k h5 h6];exact xH hl hs h1 h2 h3 h4 s _ _ h10⟩
structure PB.At (b:PB):Prop where
 sq:b.seq<b.kN.length
 la:b.last=-1\/∃k:Nat,b.last=k/\k<b.zG.length/\(b.zTP k).next=-1
 fi:b.last=-1->(b.zTO b.seq).first=-1
 nx:(b.zTO b.seq).next=-1
structure PB.Did (b c:PB) (f:Fs):Prop where
 opn:c.opn=b.opn
 al:b.zG.length<=c.zG.length
 sl:b.kN.length<=c.kN.length
 at':∀k,k<b.zG.length->(k:Int)≠b.last->c.zTP k=b.zTP k
 la:∀k:Nat,b.last=k->∃x,c.zTP k={ b.zTP k with next:=x }
 st:∀k,k<b.kN.length->k≠b.seq->c.zTO k=b.zTO k
 fi:b.last≠-1->(c.zTO b.seq).first=(b.zTO b.seq).first
 gr:(c.kR:Int)=b.kR+zZ f.kL
 stands:qG c b.zG.length b.kN.length f (if b.last=-1 then(c.zTO b.seq).first else(c.zTP b.last.toNat).next) (c.zTO b.seq).next
theorem jP(t:zTD):(yC t).kind=zJ6 t.kind:=rfl
theorem zAW(b:PB)(t:PT)(h:b.At):(b.zS t).At/\(b.zS t).zG.length=b.zG.length+1/\(b.zS t).kN.length=b.kN.length/\(b.zS t).last=b.zG.length/\(b.zS t).seq=b.seq/\(b.zS t).opn=b.opn/\(b.zS t).kR=b.kR /\
  (b.zS t).zTP b.zG.length=⟨t,0,pt0,-1,b.seq,-1⟩/\(∀k,k<b.zG.length->(k:Int)≠b.last->(b.zS t).zTP k=b.zTP k)/\(∀k:Nat,b.last=k->(b.zS t).zTP k={ b.zTP k with next:=b.zG.length }) /\
  (∀k,k≠b.seq->(b.zS t).zTO k=b.zTO k)/\((b.zS t).zTO b.seq).next=-1/\(b.last≠-1->(b.zS t).zTO b.seq=b.zTO b.seq)/\(b.last=-1->((b.zS t).zTO b.seq).first=b.zG.length):=by
 obtain⟨h1,h2,h3,h4⟩:=h;unfold PB.zS;by_cases hl:b.last=-1
 ·rw[if_pos hl];have ea:∀k,({ b with zG:=b.zG++[(⟨t,0,pt0,-1,b.seq,-1⟩:PA)],kN:=b.kN.set b.seq ⟨b.zG.length,(b.zTO b.seq).next⟩,last:=b.zG.length }:PB).zTP k=if k=b.zG.length then⟨t,0,pt0,-1,b.seq,-1⟩else b.zTP k:=λk=>qM _ _ _ _
  have es:∀k,({ b with zG:=b.zG++[(⟨t,0,pt0,-1,b.seq,-1⟩:PA)],kN:=b.kN.set b.seq ⟨b.zG.length,(b.zTO b.seq).next⟩,last:=b.zG.length }:PB).zTO k=if b.seq=k/\k<b.kN.length then⟨b.zG.length,(b.zTO b.seq).next⟩else b.zTO k:=λk=>xX _ _ _ _ _
  refine⟨⟨by simp;exact h1,Or.inr ⟨b.zG.length,rfl,by simp,by rw[ea,if_pos rfl]⟩,λe=>by simp only at e;omega,by rw[es,if_pos ⟨rfl,h1⟩];exact h4⟩,by simp,by simp,rfl,rfl,rfl,rfl,by rw[ea,if_pos rfl],λk hk _=>by rw[ea,if_neg (by omega)],λk hk=>by omega,λk hk=>by rw[es,if_neg (by omega)],by rw[es,if_pos ⟨rfl,h1⟩];exact h4,λhn=>absurd hl hn,λ_=>by rw[es,if_pos ⟨rfl,h1⟩]⟩
 ·rw[if_neg hl];rcases h2 with h2 | ⟨m,hm,hml,hmn⟩
  ·exact absurd h2 hl
  have ea:∀k,({ b with zG:=(b.zG++[(⟨t,0,pt0,-1,b.seq,-1⟩:PA)]).set b.last.toNat { b.zTP b.last.toNat with next:=b.zG.length },last:=b.zG.length }:PB).zTP k=if m=k then { b.zTP m with next:=b.zG.length } else if k=b.zG.length then⟨t,0,pt0,-1,b.seq,-1⟩else b.zTP k:=λk=>by
   unfold PB.zTP;dsimp only;rw[xX,qM,hm,Int.toNat_natCast];by_cases e:m=k
   ·subst e;rw[if_pos ⟨rfl,by simp;omega⟩,if_pos rfl]
   ·rw[if_neg (by omega),if_neg e]
  refine⟨⟨h1,Or.inr ⟨b.zG.length,rfl,by simp,by rw[ea,if_neg (by omega),if_pos rfl]⟩,λe=>by simp only at e;omega,h4⟩,by simp,by simp,rfl,rfl,rfl,rfl,by rw[ea,if_neg (by omega),if_pos rfl],λk hk hkl=>by rw[ea,if_neg (by omega),if_neg (by omega)],λk hk=>by rw[ea,if_pos (by omega)];rw[show m=k by omega],λk hk=>rfl,h4,λ_=>rfl,λe=>absurd e hl⟩
theorem zGT(b:PB){t:zTD}(h:wY t):b.next (yC t)=b.zS (yC t):=by
 unfold PB.next
 have:(yC t).kind=5\/(yC t).kind=6\/(yC t).kind=7\/(yC t).kind=8:=by
  rw[jP];rcases h with h | h | h | h <;> rw[h] <;> decide
 rw[if_neg (by omega),if_neg (by omega),if_neg (by omega),if_neg (by omega)]
theorem zIZ(b:PB){t:zTD}(h:t.kind=8):b.next (yC t)=b.repeated (yC t):=by
 unfold PB.next
 have:(yC t).kind=4:=by rw[jP,h];decide
 rw[if_neg (by omega),if_neg (by omega),if_neg (by omega),if_pos this]
theorem zBF(b:PB){t:zTD}(h:t.kind=6):b.next (yC t)=b.kW (yC t):=by
 unfold PB.next
 have:(yC t).kind=2:=by rw[jP,h];decide
 rw[if_neg (by omega),if_pos this]
theorem zAN(b:PB){t:zTD}(h:t.kind=7):b.next (yC t)=b.close:=by
 unfold PB.next
 have:(yC t).kind=3:=by rw[jP,h];decide
 rw[if_neg (by omega),if_neg (by omega),if_pos this]
theorem zC3(b:PB){t:zTD}(h:t.kind=5):b.next (yC t)=b.bar:=by
 unfold PB.next
 have:(yC t).kind=1:=by rw[jP,h];decide
 rw[if_pos this]
theorem zLI(b:PB)(h:b.At)(k:Nat)(hk:b.last=k)(hkl:k<b.zG.length)(h0:(b.zTP k).rep=pt0)(r:Option zTD)(hr:zJW r) :
  (b.run r.toList).At/\(b.run r.toList).zG.length=b.zG.length/\(b.run r.toList).kN=b.kN/\(b.run r.toList).last=k/\(b.run r.toList).seq=b.seq/\(b.run r.toList).opn=b.opn/\(b.run r.toList).kR=b.kR /\
  (b.run r.toList).zTP k={ b.zTP k with rep:=rp r }/\(∀j,j≠k->(b.run r.toList).zTP j=b.zTP j):=by
 cases r with
 | none=>exact⟨h,rfl,rfl,hk,rfl,rfl,rfl,by simp only[Option.toList_none,PB.zPp,rp,<-h0],λ_ _=>rfl⟩
 | some q =>
  have e:b.run (some q).toList=b.repeated (yC q):=zIZ b (hr q rfl);rw[e]
  have ea:∀j,(b.repeated (yC q)).zTP j=if k=j then { b.zTP k with rep:=yC q } else b.zTP j:=λj=>by
   unfold PB.repeated PB.zTP;dsimp only;rw[xX,hk,Int.toNat_natCast];by_cases e:k=j
   ·subst e;rw[if_pos ⟨rfl,hkl⟩,if_pos rfl]
   ·rw[if_neg (by omega),if_neg e]
  refine⟨⟨h.sq,Or.inr ⟨k,hk,by simp[PB.repeated];exact hkl,?_⟩,λe=>h.fi e,h.nx⟩,by simp[PB.repeated],rfl,hk,rfl,rfl,rfl,by rw[ea,if_pos rfl];rfl,λj hj=>by rw[ea,if_neg (Ne.symm hj)]⟩;rw[ea,if_pos rfl];rcases h.la with h1 | ⟨m,h1,h2,h3⟩
  ·omega
  ·have:m=k:=by omega
   subst this;exact h3
theorem zFz{t:zTD}(h:wY t):jO t=false:=by
 unfold jO;rcases h with h | h | h | h <;> simp[h]
theorem zCf{r:Option zTD}(h:zJW r):zZ r.toList=0:=by
 cases r with
 | none=>rfl
 | some q =>
       have:jO q=false:=by unfold jO;simp[h q rfl]
       simp[zZ,this]
theorem zNK{b c:PB}{t:zTD}{r:Option zTD}{s:Fs}(h:b.At)(ht:wY t)(hr:zJW r)(hc:((b.zS (yC t)).run r.toList).Did c s):b.Did c (.leaf t r s):=by
 obtain⟨a1,a2,a3,a4,a5,a6,a7,a8,a9,a10,a11,a12,a13,a14⟩:=zAW b (yC t) h;obtain⟨r1,r2,r3,r4,r5,r6,r7,r8,r9⟩:=zLI (b.zS (yC t)) a1 b.zG.length a4 (by omega) (by rw[a8]) r hr;generalize (b.zS (yC t)).run r.toList=d at *;have es:∀k,d.zTO k=(b.zS (yC t)).zTO k:=λk=>by unfold PB.zTO;rw[r3]
 have hd:d.zTP b.zG.length=⟨yC t,0,rp r,-1,b.seq,-1⟩:=by rw[r8,a8]
 obtain⟨x,hx⟩:=hc.la b.zG.length (by rw[r4]);rw[hd]at hx;have hal:=hc.al;have hsl:=hc.sl;rw[r3,a3]at hsl;have zNL:d.seq=b.seq:=by rw[r5,a5]
 refine⟨by rw[hc.opn,r6,a6],by omega,by omega,λk hk hkl=>?_,λk hk=>?_,λk hk hks=>?_,λhl=>?_,?_,?_⟩
 ·rw[hc.at' k (by omega) (by rw[r4];omega),r9 k (by omega),a9 k hk hkl]
 ·rcases h.la with h1 | ⟨m,h1,h2,h3⟩
  ·omega
  ·have:m=k:=by omega
   subst this;exact⟨_,by rw[hc.at' m (by omega) (by rw[r4];omega),r9 m (by omega),a10 m hk]⟩
 ·rw[hc.st k (by rw[r3,a3];omega) (by omega),es,a11 k hks]
 ·rw[<-zNL,hc.fi (by rw[r4];omega),es,zNL,a13 hl]
 ·rw[hc.gr,r7,a7];simp only[Fs.kL,zZ,zFz ht,bJ,zCf hr];simp
 ·refine⟨b.zG.length,?_,lG _,by omega,by rw[hx],by rw[hx],by rw[hx],?_⟩
  ·by_cases hl:b.last=-1
   ·rw[if_pos hl,<-zNL,hc.fi (by rw[r4];omega),es,zNL,a14 hl]
   ·rw[if_neg hl];rcases h.la with h1 | ⟨m,h1,h2,h3⟩
    ·omega
    ·rw[h1,Int.toNat_natCast,hc.at' m (by omega) (by rw[r4];omega),r9 m (by omega),a10 m h1]
  ·have:=hc.stands;rw[if_neg (by rw[r4];omega),r4,Int.toNat_natCast,zNL,r2,a2,r3,a3]at this;exact xH (by omega) (lG _) (λ_ _ _=>rfl) (λ_ _ _=>rfl) (lG _) (lG _) _ _ _ this
theorem zEQ(b:PB)(t:PT)(h:b.At):(b.kW t).At/\(b.kW t).zG.length=b.zG.length+1/\(b.kW t).kN.length=b.kN.length+1/\(b.kW t).last=-1/\(b.kW t).seq=b.kN.length/\(b.kW t).opn=b.opn++[b.zG.length] /\
  (b.kW t).kR=b.kR+(if t.group=1 then 1 else 0)/\(b.kW t).zTP b.zG.length=⟨t,if t.group=1 then(b.kR:Int)+1 else 0,pt0,b.kN.length,b.seq,-1⟩ /\
  (∀k,k<b.zG.length->(b.kW t).zTP k=(b.zS t).zTP k)/\(∀k,k<b.kN.length->(b.kW t).zTO k=(b.zS t).zTO k):=by
 obtain⟨a1,a2,a3,a4,a5,a6,a7,a8,a9,a10,a11,a12,a13,a14⟩:=zAW b t h;unfold PB.kW;generalize b.zS t=d at *
 have hn:∀cap:Bool,(d.number b.zG.length cap).zG.length=b.zG.length+1/\(d.number b.zG.length cap).kN=d.kN/\(d.number b.zG.length cap).opn=d.opn/\(d.number b.zG.length cap).kR=d.kR+(if cap then 1 else 0) /\
   (d.number b.zG.length cap).zTP b.zG.length=⟨t,if cap then(b.kR:Int)+1 else 0,pt0,-1,b.seq,-1⟩/\(∀k,k<b.zG.length->(d.number b.zG.length cap).zTP k=d.zTP k):=by
  intro cap;cases cap with
  | false=>exact⟨a2,rfl,rfl,rfl,a8,λ_ _=>rfl⟩
  | true =>
   refine⟨by simp[PB.number,a2],rfl,rfl,rfl,?_,λk hk=>?_⟩
   ·show(d.zG.set b.zG.length { d.zTP b.zG.length with num:=(d.kR:Int)+1 }).getD b.zG.length pa0=_;rw[xX,if_pos ⟨rfl,by omega⟩,a8,a7];rfl
   ·show(d.zG.set b.zG.length _).getD k pa0=_;rw[xX,if_neg (by omega)];rfl
 obtain⟨n1,n2,n3,n4,n5,n6⟩:=hn (decide (t.group=1));generalize d.number b.zG.length (decide (t.group=1))=e at *
 have ea:∀k,(e.into b.zG.length).zTP k=if b.zG.length=k then { e.zTP b.zG.length with body:=e.kN.length } else e.zTP k:=λk=>by
  show(e.zG.set b.zG.length _).getD k pa0=_;rw[xX];by_cases x:b.zG.length=k
  ·rw[if_pos ⟨x,by omega⟩,if_pos x]
  ·rw[if_neg (by omega),if_neg x];rfl
 have es:∀k,(e.into b.zG.length).zTO k=if k=e.kN.length then ps0 else e.zTO k:=λk=>qM _ _ _ _
 have hse:e.kN.length=b.kN.length:=by rw[n2,a3]
 refine⟨⟨by simp[PB.into],Or.inl rfl,λ_=>?_,?_⟩,by simp[PB.into,n1],by simp[PB.into,hse],rfl,hse,by show e.opn++_=_;rw[n3,a6],?_,?_,λk hk=>?_,λk hk=>?_⟩
 ·show((e.into b.zG.length).zTO e.kN.length).first=-1
  rw[es,if_pos rfl];rfl
 ·show((e.into b.zG.length).zTO e.kN.length).next=-1
  rw[es,if_pos rfl];rfl
 ·show e.kR=_;rw[n4,a7];simp
 ·rw[ea,if_pos rfl,n5,hse];simp
 ·rw[ea,if_neg (by omega),n6 k hk]
 ·rw[es,if_neg (by omega)];unfold PB.zTO;rw[n2]
def zH9(n:Int):List zTD->Prop
 | []=>True
 | t::r=>(jO t=true->t.n=n+1)/\zH9 (n+if jO t then 1 else 0) r
theorem zBQ(n:Int):∀(a b:List zTD),zH9 n (a++b)↔zH9 n a/\zH9 (n+zZ a) b
 | [],b=>by simp[zH9,zZ]
 | t::r,b=>by
  simp only[List.cons_append,zH9,zZ,zBQ _ r b];rw[show n+((if jO t=true then 1 else 0)+zZ r)=n+(if jO t=true then 1 else 0)+zZ r by omega];exact⟨λ⟨a,b,c⟩=>⟨⟨a,b⟩,c⟩,λ⟨⟨a,b⟩,c⟩=>⟨a,b,c⟩⟩
theorem zDL{t:zTD}(h:t.kind=6)(ho:0<=t.zTF/\t.zTF<=4):(yC t).group=1↔jO t=true:=by
 have e1:(yC t).group=zNJ t.zTF:=by simp[yC,h]
 rw[e1];unfold jO zNJ;by_cases h4:t.zTF=4
 ·simp[h4,h]
 ·rw[if_neg h4];have:¬(t.kind=6/\t.zTF=4):=λx=>h4 x.2
  simp only[this,decide_false];by_cases h3:t.zTF=3
  ·simp[h3]
  ·rw[if_neg h3];simp;omega
theorem zPq{b c1 c:PB}{t cl:zTD}{i s:Fs}{r:Option zTD}(h:b.At)(ht:t.kind=6)(hh:0<=t.zTF/\t.zTF<=4)(hr:zJW r)(hcl:cl.kind=7)(hn:jO t=true->t.n=(b.kR:Int)+1)
  (h1:(b.kW (yC t)).Did c1 i) (h2:(c1.close.run r.toList).At->(c1.close.run r.toList).kR=c1.kR->(c1.close.run r.toList).Did c s):b.Did c (.grp t i cl r s):=by
 obtain⟨a1,a2,a3,a4,a5,a6,a7,a8,a9,a10,a11,a12,a13,a14⟩:=zAW b (yC t) h;obtain⟨o1,o2,o3,o4,o5,o6,o7,o8,o9,o10⟩:=zEQ b (yC t) h;have ig:=h1.gr;have st1:=h1.stands;rw[o4,if_pos rfl,o5,o2,o3]at st1;have al1:=h1.al;have sl1:=h1.sl
 have g1:c1.zTP b.zG.length=⟨yC t,if(yC t).group=1 then(b.kR:Int)+1 else 0,pt0,b.kN.length,b.seq,-1⟩:=by
  rw[h1.at' _ (by omega) (by rw[o4];omega),o8]
 have g2:∀k,k<b.zG.length->c1.zTP k=(b.zS (yC t)).zTP k:=λk hk=>by rw[h1.at' _ (by omega) (by rw[o4];omega),o9 k hk]
 have g3:∀k,k<b.kN.length->c1.zTO k=(b.zS (yC t)).zTO k:=λk hk=>by rw[h1.st _ (by omega) (by rw[o5];omega),o10 k hk]
 have top:c1.top=b.zG.length:=by unfold PB.top;rw[h1.opn,o6];simp
 have q1:c1.close.opn=b.opn:=by show c1.opn.dropLast=_;rw[h1.opn,o6];simp
 have q2:c1.close.seq=b.seq:=by show(c1.zTP c1.top).home.toNat=_;rw[top,g1];simp
 have q3:c1.close.last=b.zG.length:=by show(c1.top:Int)=_;rw[top]
 have q4:∀k,c1.close.zTP k=c1.zTP k:=λ_=>rfl
 have q5:∀k,c1.close.zTO k=c1.zTO k:=λ_=>rfl
 have q6:c1.close.zG.length=c1.zG.length:=rfl;have q7:c1.close.kN.length=c1.kN.length:=rfl;have q8:c1.close.kR=c1.kR:=rfl;have hsq:=h.sq
 have ca:c1.close.At:=by
  refine⟨by rw[q2,q7];omega,Or.inr ⟨b.zG.length,q3,by omega,by rw[q4,g1]⟩,λe=>by omega,?_⟩;rw[q2,q5,g3 _ hsq];exact a12
 generalize c1.close=c2 at *;obtain⟨r1,r2,r3,r4,r5,r6,r7,r8,r9⟩:=zLI c2 ca b.zG.length q3 (by omega) (by rw[q4,g1]) r hr;have h2':=h2 r1 (by rw[r7,q8]);clear h2;generalize c2.run r.toList=d at *;have hd:d.zTP b.zG.length=⟨yC t,if(yC t).group=1 then(b.kR:Int)+1 else 0,rp r,b.kN.length,b.seq,-1⟩:=by rw[r8,q4,g1]
 have es:∀k,d.zTO k=c1.zTO k:=λk=>by rw[<-q5];unfold PB.zTO;rw[r3]
 have zNL:d.seq=b.seq:=by rw[r5,q2]
 obtain⟨x,hx⟩:=h2'.la b.zG.length (by rw[r4]);rw[hd]at hx;have al2:=h2'.al;have sl2:=h2'.sl;rw[r3,q7]at sl2;rw[r2,q6]at al2;have cs:∀k,k<c1.kN.length->k≠b.seq->c.zTO k=c1.zTO k:=λk hk hks=>by rw[h2'.st k (by rw[r3];omega) (by omega),es]
 have caa:∀k,k<c1.zG.length->k≠b.zG.length->c.zTP k=c1.zTP k:=λk hk hka=>by rw[h2'.at' k (by omega) (by rw[r4];omega),r9 k hka,q4]
 have cfi:(c.zTO b.seq).first=((b.zS (yC t)).zTO b.seq).first:=by rw[<-zNL,h2'.fi (by rw[r4];omega),es,zNL,g3 _ hsq]
 refine⟨by rw[h2'.opn,r6,q1],by omega,by omega,λk hk hkl=>?_,λk hk=>?_,λk hk hks=>?_,λhl=>?_,?_,?_⟩
 ·rw[caa k (by omega) (by omega),g2 k hk,a9 k hk hkl]
 ·rcases h.la with e1 | ⟨m,e1,e2,e3⟩
  ·omega
  ·have:m=k:=by omega
   subst this;exact⟨_,by rw[caa m (by omega) (by omega),g2 m e2,a10 m hk]⟩
 ·rw[cs k (by omega) hks,g3 k hk,a11 k hks]
 ·rw[cfi,a13 hl]
 ·rw[h2'.gr,r7,q8,ig,o7];have hc7:jO cl=false:=by unfold jO;simp[hcl]
  simp only[Fs.kL,zZ,bJ,zCf hr,hc7];have:=zDL ht hh;cases hcp:jO t
  ·rw[hcp]at this;rw[if_neg (by simpa using this)];simp;omega
  ·rw[hcp]at this;rw[if_pos (by simpa using this)];simp;omega
 ·refine⟨b.zG.length,?_,lG _,by omega,by rw[hx],by rw[hx],?_,⟨b.kN.length,by rw[hx],lG _,by omega,?_⟩,?_⟩
  ·by_cases hl:b.last=-1
   ·rw[if_pos hl,cfi,a14 hl]
   ·rw[if_neg hl];rcases h.la with e1 | ⟨m,e1,e2,e3⟩
    ·omega
    ·rw[e1,Int.toNat_natCast,caa m (by omega) (by omega),g2 m e2,a10 m e1]
  ·rw[hx];have:=zDL ht hh;cases hcp:jO t
   ·rw[hcp]at this;simp only;rw[if_neg (by simpa using this)];simp
   ·rw[hcp]at this;simp only;rw[if_pos (by simpa using this),hn hcp];simp
  ·rw[cs b.kN.length (by omega) (by omega)];exact xH (by omega) (by omega) (λk k1 k2=>caa k k2 (by omega)) (λk k1 k2=>cs k k2 (by omega)) (by omega) (by omega) _ _ _ st1
  ·have:=h2'.stands;rw[if_neg (by rw[r4];omega),r4,Int.toNat_natCast,zNL,r2,q6,r3,q7]at this;exact xH (by omega) (by omega) (λ_ _ _=>rfl) (λ_ _ _=>rfl) (lG _) (lG _) _ _ _ this
theorem zOM(b:PB)(h:b.At):b.bar.At/\b.bar.zG=b.zG/\b.bar.kN.length=b.kN.length+1/\b.bar.last=-1/\b.bar.seq=b.kN.length/\b.bar.opn=b.opn/\b.bar.kR=b.kR /\
  (∀k,k<b.kN.length->k≠b.seq->b.bar.zTO k=b.zTO k)/\b.bar.zTO b.seq=⟨(b.zTO b.seq).first,b.kN.length⟩:=by
 have es:∀k,b.bar.zTO k=if b.seq=k/\k<b.kN.length+1 then⟨(b.zTO b.seq).first,b.kN.length⟩else if k=b.kN.length then ps0 else b.zTO k:=λk=>by
  show((b.kN++[ps0]).set b.seq _).getD k ps0=_;rw[xX,qM];simp only[lM,List.length_cons,List.length_nil];rfl
 have hs:=h.sq;refine⟨⟨by simp[PB.bar],Or.inl rfl,λ_=>?_,?_⟩,rfl,by simp[PB.bar],rfl,rfl,rfl,rfl,λk hk hks=>by rw[es,if_neg (by omega),if_neg (by omega)],by rw[es,if_pos ⟨rfl,by omega⟩]⟩
 ·show(b.bar.zTO b.kN.length).first=-1
  rw[es,if_neg (by omega),if_pos rfl];rfl
 ·show(b.bar.zTO b.kN.length).next=-1
  rw[es,if_neg (by omega),if_pos rfl];rfl
theorem zPr{b c:PB}{t:zTD}{r:Fs}(h:b.At)(ht:t.kind=5)(hc:b.bar.Did c r):b.Did c (.bar t r):=by
 obtain⟨b1,b2,b3,b4,b5,b6,b7,b8,b9⟩:=zOM b h;have hs:=h.sq;have al:=hc.al;have sl:=hc.sl;rw[b2]at al;have st:=hc.stands;rw[b4,if_pos rfl,b5,b2,b3]at st;have ea:∀k,b.bar.zTP k=b.zTP k:=λk=>by unfold PB.zTP;rw[b2]
 have cs:c.zTO b.seq=⟨(b.zTO b.seq).first,b.kN.length⟩:=by rw[hc.st _ (by omega) (by rw[b5];omega),b9]
 have ca:∀k,k<b.zG.length->c.zTP k=b.zTP k:=λk hk=>by rw[hc.at' k (by rw[b2];omega) (by rw[b4];omega),ea]
 refine⟨by rw[hc.opn,b6],by omega,by omega,λk hk hkl=>ca k hk,λk hk=>?_,λk hk hks=>by rw[hc.st k (by omega) (by rw[b5];omega),b8 k hk hks],λhl=>by rw[cs],?_,?_⟩
 ·rcases h.la with e1 | ⟨m,e1,e2,e3⟩
  ·omega
  ·have:m=k:=by omega
   subst this;exact⟨(b.zTP m).next,by rw[ca m e2]⟩
 ·rw[hc.gr,b7];have:jO t=false:=by unfold jO;simp[ht]
  simp[Fs.kL,zZ,this]
 ·refine⟨?_,b.kN.length,by rw[cs],lG _,by omega,?_⟩
  ·by_cases hl:b.last=-1
   ·rw[if_pos hl,cs];exact h.fi hl
   ·rw[if_neg hl];rcases h.la with e1 | ⟨m,e1,e2,e3⟩
    ·omega
    ·rw[e1,Int.toNat_natCast,ca m e2,e3]
  ·exact xH (by omega) (by omega) (λ_ _ _=>rfl) (λ_ _ _=>rfl) (lG _) (lG _) _ _ _ st
theorem zPs{b:PB}(h:b.At):b.Did b .nil:=by
 refine⟨rfl,lG _,lG _,λ_ _ _=>rfl,λk _=>⟨(b.zTP k).next,rfl⟩,λ_ _ _=>rfl,λ_=>rfl,by simp[Fs.kL,zZ],?_,h.nx⟩;by_cases hl:b.last=-1
 ·rw[if_pos hl];exact h.fi hl
 ·rw[if_neg hl];rcases h.la with e1 | ⟨m,e1,e2,e3⟩
  ·omega
  ·rw[e1,Int.toNat_natCast,e3]
theorem wM:∀(f:Fs),f.wf->(∀t∈f.kL,t.kind=6->0<=t.zTF/\t.zTF<=4)->∀b:PB,b.At->zH9 b.kR f.kL->b.Did (b.run f.kL) f
 | .nil,_,_,b,h,_=>zPs h
 | .bar t r,hw,hh,b,h,hn=>by
  have ht:t.kind=5:=hw.1;have hb:=zOM b h;rw[show(Fs.bar t r).kL=t::r.kL from rfl]at hn |-;rw[PB.zBP,zC3 b ht];refine zPr h ht (wM r hw.2 (λu hu=>hh u (by simp[Fs.kL,hu])) b.bar hb.1 ?_);have hc:jO t=false:=by unfold jO;simp[ht]
  simpa[zH9,hc,hb.2.2.2.2.2.2.1]using hn
 | .leaf t r s,hw,hh,b,h,hn=>by
  have ha:=zAW b (yC t) h;have hq:=zLI (b.zS (yC t)) ha.1 b.zG.length ha.2.2.2.1 (by have:=ha.2.1;omega) (by rw[ha.2.2.2.2.2.2.2.1]) r hw.2.1;rw[show(Fs.leaf t r s).kL=t::(r.toList++s.kL)from rfl]at hn |-;rw[PB.zBP,zGT b hw.1,PB.zFy];refine zNK h hw.1 hw.2.1 (wM s hw.2.2 (λu hu=>hh u (by simp[Fs.kL,hu])) _ hq.1 ?_);simp only[zH9,zFz hw.1,zBQ,zCf hw.2.1]at hn;have e:((b.zS (yC t)).run r.toList).kR=b.kR:=by rw[hq.2.2.2.2.2.2.1,ha.2.2.2.2.2.2.1]
  rw[e];simpa using hn.2.2
 | .grp t i c r s,hw,hh,b,h,hn=>by
  obtain⟨hw1,hw2,hw3,hw4,hw5⟩:=hw;have ho:=zEQ b (yC t) h;have hht:=hh t (by simp[Fs.kL]) hw1;have hgc:=zDL hw1 hht;rw[show(Fs.grp t i c r s).kL=t::(i.kL++c::(r.toList++s.kL))from rfl]at hn |-;have hc7:jO c=false:=by unfold jO;simp[hw2]
  simp only[zH9,zBQ,hc7,zCf hw4]at hn;rw[PB.zBP,zBF b hw1,PB.zFy,PB.zBP,zAN _ hw2,PB.zFy]
  have eg:((b.kW (yC t)).kR:Int)=b.kR+(if jO t=true then 1 else 0):=by
   rw[ho.2.2.2.2.2.2.1];cases hcp:jO t
   ·rw[hcp]at hgc;rw[if_neg (by simpa using hgc)];simp
   ·rw[hcp]at hgc;rw[if_pos (by simpa using hgc)];simp
  have d1:=wM i hw3 (λu hu=>hh u (by simp[Fs.kL,hu])) _ ho.1 (by rw[eg];exact hn.2.1);refine zPq h hw1 hht hw4 hw2 hn.1 d1 (λhA hG=>wM s hw5 (λu hu=>hh u (by simp[Fs.kL,hu])) _ hA ?_);rw[hG,d1.gr,eg];simpa using hn.2.2.2.2
theorem zBd(t:zTD):∀(x:List zTD) (n:Int) (j:Nat),jB (x++[t]) n j=if jB x n j<j+x.length then jB x n j else if n+kJ x+jW t=0 then j+x.length else j+x.length+1
 | [],n,j=>by simp[jB,kJ]
 | a::r,n,j=>by
  have e1:∀s:List zTD,jB (a::s) n j=if n+jW a=0 then j else jB s (n+jW a) (j+1):=λ_=>rfl
  rw[List.cons_append,e1,e1,kJ,List.length_cons];by_cases h:n+jW a=0
  ·simp only[if_pos h];rw[if_pos (by omega)]
  ·simp only[if_neg h];rw[zBd t r];rw[show n+jW a+kJ r+jW t=n+(jW a+kJ r)+jW t by omega,show j+1+r.length=j+(r.length+1) by omega]
theorem bF(l:List zTD)(t:zTD)(j:Nat)(h:j<=l.length):jH (l++[t]) j=if jH l j<l.length then jH l j else if kJ (l.drop j)+jW t=0 then l.length else l.length+1:=by
 unfold jH;rw[List.drop_append_of_le_length h,zBd,List.length_drop,show j+(l.length-j)=l.length by omega];rw[show(0:Int)+kJ (l.drop j)+jW t=kJ (l.drop j)+jW t by omega]
theorem zDM(l:List zTD)(t:zTD)(h:jW t≠0):jH (l++[t]) l.length=l.length+1:=by
 unfold jH;rw[List.drop_left];simp only[jB];rw[if_neg (by omega)]
def zF8(l:List zTD):Prop:=∀j,j<l.length->jO (l.getD j jZ)=true->(l.getD j jZ).n=zZ (l.take j)+1
theorem zAe(l:List zTD):∀(i d:Nat),i+d<=l.length->zZ (l.take i)<=zZ (l.take (i+d))
 | i,0,_=>Int.le_refl _
 | i,d+1,h=>by
  have:=zAe l i d (by omega);rw[show i+(d+1)=i+d+1 by omega,nH l (i+d) (by omega)];split <;> omega
theorem zNM{l:List zTD}(h:zF8 l){i j:Nat}(hi:i<l.length)(hj:j<l.length)(ci:jO (l.getD i jZ)=true)(cj:jO (l.getD j jZ)=true)(e:(l.getD i jZ).n=(l.getD j jZ).n):i=j:=by
 have key:∀i j,i<j->i<l.length->j<l.length->jO (l.getD i jZ)=true->jO (l.getD j jZ)=true->(l.getD i jZ).n≠(l.getD j jZ).n:=by
  intro i j hij hi hj ci cj e;have a:=h i hi ci;have b:=h j hj cj;have c:=nH l i hi;rw[if_pos ci]at c;have d:=zAe l (i+1) (j-(i+1)) (by omega);rw[show i+1+(j-(i+1))=j by omega]at d;omega
 rcases Nat.lt_trichotomy i j with h1 | h1 | h1
 ·exact absurd e (key i j h1 hi hj ci cj)
 ·exact h1
 ·exact absurd e.symm (key j i h1 hj hi cj ci)
theorem cZ{l:List zTD}(h:zF8 l)(k:Int):closed l k=true↔∃j,j<l.length/\jO (l.getD j jZ)=true/\(l.getD j jZ).n=k/\jH l j<l.length:=by
 have key:∀(m j:Nat),j+m=l.length->(vE l k (l.drop j) j=true↔∃i,j<=i/\i<l.length/\jO (l.getD i jZ)=true/\(l.getD i jZ).n=k/\jH l i<l.length):=by
  intro m;induction m with
  | zero=>intro j hj;rw[List.drop_eq_nil_of_le (by omega)];simp only[vE];exact⟨λe=>by simp at e,λ⟨i,h1,h2,_⟩=>by omega⟩
  | succ m ih =>
   intro j hj;rw[zAu l k j (by omega)];by_cases hc:jO (l.getD j jZ)=true/\(l.getD j jZ).n=k
   ·rw[if_pos hc,decide_eq_true_eq];constructor
    ·intro e;exact⟨j,lG _,by omega,hc.1,hc.2,e⟩
    ·rintro⟨i,h1,h2,h3,h4,h5⟩;have:i=j:=zNM h h2 (by omega) h3 hc.1 (by rw[h4,hc.2]);subst this;exact h5
   ·rw[if_neg hc,ih (j+1) (by omega)];constructor
    ·rintro⟨i,h1,h2⟩;exact⟨i,by omega,h2⟩
    ·rintro⟨i,h1,h2,h3,h4,h5⟩;refine⟨i,?_,h2,h3,h4,h5⟩;by_cases e:i=j
     ·subst e;exact absurd ⟨h3,h4⟩ hc
     ·omega
 have:=key l.length 0 (by omega);unfold closed;rw[show vE l k l 0=vE l k (l.drop 0) 0 from rfl,this];exact⟨λ⟨i,_,h⟩=>⟨i,h⟩,λ⟨i,h⟩=>⟨i,Nat.zero_le _,h⟩⟩
structure PB.Rel (b:PB) (l:List zTD) (stk:List Nat):Prop where
 sq:b.seq<b.kN.length
 la:b.last=-1\/∃k:Nat,b.last=k/\k<b.zG.length
 homes:∀k,k<b.zG.length->∃h:Nat,(b.zTP k).home=h/\h<b.kN.length
 nums:∀k,k<b.zG.length->0<=(b.zTP k).num/\(b.zTP k).num<=9
 len:b.opn.length=stk.length
 op:(stk.length:Int)=kJ l
 gr:(b.kR:Int)=zZ l
 zNN:∀i,i<stk.length->b.opn.getD i 0<b.zG.length/\(b.zTP (b.opn.getD i 0)).num=(if jO (l.getD (stk.getD i 0) jZ)then(l.getD (stk.getD i 0) jZ).n else 0)/\(b.zTP (b.opn.getD i 0)).rep.kind=0/\(b.opn.getD i 0:Int)≠b.last
 zM0:∀i,i<stk.length->stk.getD i 0<l.length/\(l.getD (stk.getD i 0) jZ).kind=6/\jH l (stk.getD i 0)=l.length/\kJ (l.drop (stk.getD i 0))=(stk.length:Int)-i
 oth:∀j,j<l.length->(l.getD j jZ).kind=6->(∀i,i<stk.length->stk.getD i 0≠j)->jH l j<l.length
 inj:∀i j,i<j->j<stk.length->b.opn.getD i 0<b.opn.getD j 0
 clo:∀k:Nat,1<=k->k<=9->b.clo.getD k false=closed l k
 cl:b.clo.length=10
 en:(b.last≠-1/\(b.zTP b.last.toNat).rep.kind=0)↔xD l=true
 al:b.zG.length<=l.length
 sl:b.kN.length<=l.length+1
theorem zLJ:PB.start.Rel [] []:=by
 refine⟨by decide,Or.inl rfl,λk hk=>by simp[PB.start]at hk,λk hk=>by simp[PB.start]at hk,rfl,rfl,rfl,λi hi=>by simp at hi,λi hi=>by simp at hi,λj hj=>by simp at hj,λi j _ hj=>by simp at hj,λk h1 h2=>?_,rfl,?_,by simp[PB.start],by simp[PB.start]⟩
 ·show(List.replicate 10 false).getD k false=closed [] k;rw[lH,List.getElem?_replicate,if_pos (by omega)];rfl
 ·simp[PB.start,xD]
theorem zAf(l:List zTD)(t:zTD):xD (l++[t])=zEo t:=by unfold xD zEo;simp
theorem mD(l:List zTD)(t:zTD):kJ (l++[t])=kJ l+jW t:=by rw[vM];simp[kJ]
theorem nJ(l:List zTD)(t:zTD):zZ (l++[t])=zZ l+if jO t then 1 else 0:=by rw[bJ];simp[zZ]
theorem zFA{b c:PB}{l:List zTD}{stk:List Nat}{t:zTD}(h:b.Rel l stk)(hN:zF8 l)(hN':zF8 (l++[t]))(hd:jW t=0)(h6:t.kind≠6)
  (c1:c.seq<c.kN.length) (c2:c.last=-1\/∃k:Nat,c.last=k/\k<c.zG.length) (c3:∀k,k<c.zG.length->∃h:Nat,(c.zTP k).home=h/\h<c.kN.length) (c4:∀k,k<c.zG.length->0<=(c.zTP k).num/\(c.zTP k).num<=9)
  (c5:c.opn=b.opn) (c6:c.kR=b.kR) (c7:c.clo=b.clo) (c8:b.zG.length<=c.zG.length)
  (c9:∀i,i<stk.length->(c.zTP (b.opn.getD i 0)).num=(b.zTP (b.opn.getD i 0)).num/\(c.zTP (b.opn.getD i 0)).rep.kind=0/\(b.opn.getD i 0:Int)≠c.last)
  (c10:(c.last≠-1/\(c.zTP c.last.toNat).rep.kind=0)↔zEo t=true) (c11:c.zG.length<=l.length+1) (c12:c.kN.length<=l.length+2):c.Rel (l++[t]) stk:=by
 have hcap:jO t=false:=by unfold jO;simp[h6]
 have gl:∀j,j<l.length->(l++[t]).getD j jZ=l.getD j jZ:=λj hj=>by rw[qM,if_neg (by omega)]
 have hcl:∀j,j<l.length->(l.getD j jZ).kind=6->(jH (l++[t]) j<l.length+1↔jH l j<l.length):=by
  intro j hj hk;rw[bF l t j (by omega)];by_cases e:jH l j<l.length
  ·rw[if_pos e];exact⟨λ_=>e,λ_=>by omega⟩
  ·rw[if_neg e,hd]
   have:∃i,i<stk.length/\stk.getD i 0=j:=by
    refine Classical.byContradiction λhh=>e (h.oth j hj hk (λi hi he=>hh ⟨i,hi,he⟩))
   obtain⟨i,hi,rfl⟩:=this;have:=(h.zM0 i hi).2.2.2;rw[if_neg (by omega)];exact⟨λx=>by omega,λx=>absurd x e⟩
 refine⟨c1,c2,c3,c4,by rw[c5];exact h.len,by rw[mD,hd,h.op];omega,by rw[c6,h.gr,nJ,hcap];simp,λi hi=>?_,λi hi=>?_,λj hj hk hs=>?_,λi j hij hj=>by rw[c5];exact h.inj i j hij hj,λk h1 h2=>?_,by rw[c7];exact h.cl,by rw[zAf];exact c10,by simp;exact c11,by simp;omega⟩
 ·have t1:=h.zNN i hi;have t2:=c9 i hi;have t3:=(h.zM0 i hi).1;rw[c5,gl _ t3];exact⟨by omega,by rw[t2.1];exact t1.2.1,t2.2.1,t2.2.2⟩
 ·obtain⟨s1,s2,s3,s4⟩:=h.zM0 i hi;rw[gl _ s1];refine⟨by simp only[lM,List.length_cons,List.length_nil];omega,s2,?_,?_⟩
  ·rw[bF l t _ (by omega),if_neg (by omega),if_neg (by omega)];simp
  ·rw[List.drop_append_of_le_length (by omega),mD,s4,hd];omega
 ·simp only[lM,List.length_cons,List.length_nil]at hj |-;by_cases e:j=l.length
  ·subst e;rw[qM,if_pos rfl]at hk;exact absurd hk h6
  ·rw[gl j (by omega)]at hk;exact(hcl j (by omega) hk).2 (h.oth j (by omega) hk hs)
 ·rw[c7,h.clo k h1 h2];have a:=cZ hN (k:Int);have b':=cZ hN' (k:Int);apply Bool.eq_iff_iff.2;rw[a,b'];constructor
  ·rintro⟨j,j1,j2,j3,j4⟩;refine⟨j,by simp;omega,by rw[gl j j1];exact j2,by rw[gl j j1];exact j3,?_⟩;have hk:(l.getD j jZ).kind=6:=by simp[jO]at j2;exact j2.1
   simp only[lM,List.length_cons,List.length_nil];exact(hcl j j1 hk).2 j4
  ·rintro⟨j,j1,j2,j3,j4⟩;simp only[lM,List.length_cons,List.length_nil]at j1 j4;by_cases e:j=l.length
   ·subst e;rw[qM,if_pos rfl,hcap]at j2;simp at j2
   ·rw[gl j (by omega)]at j2 j3;have hk:(l.getD j jZ).kind=6:=by simp[jO]at j2;exact j2.1
    exact⟨j,by omega,j2,j3,(hcl j (by omega) hk).1 j4⟩
theorem zAX{b:PB}(t:PT)(h1:b.seq<b.kN.length)(h2:b.last=-1\/∃k:Nat,b.last=k/\k<b.zG.length) :
  (b.zS t).zG.length=b.zG.length+1/\(b.zS t).kN.length=b.kN.length/\(b.zS t).last=b.zG.length/\(b.zS t).seq=b.seq/\(b.zS t).opn=b.opn/\(b.zS t).kR=b.kR/\(b.zS t).clo=b.clo /\
  (b.zS t).zTP b.zG.length=⟨t,0,pt0,-1,b.seq,-1⟩/\(∀k,k<b.zG.length->((b.zS t).zTP k).num=(b.zTP k).num/\((b.zS t).zTP k).rep=(b.zTP k).rep/\((b.zS t).zTP k).home=(b.zTP k).home):=by
 unfold PB.zS;by_cases hl:b.last=-1
 ·rw[if_pos hl];refine⟨by simp,by simp,rfl,rfl,rfl,rfl,rfl,?_,λk hk=>?_⟩
  ·show(b.zG++[_]).getD _ pa0=_;rw[qM,if_pos rfl]
  ·have:({ b with zG:=b.zG++[(⟨t,0,pt0,-1,b.seq,-1⟩:PA)],kN:=b.kN.set b.seq ⟨b.zG.length,(b.zTO b.seq).next⟩,last:=b.zG.length }:PB).zTP k=b.zTP k:=by
    show(b.zG++[_]).getD _ pa0=_;rw[qM,if_neg (by omega)];rfl
   rw[this];exact⟨rfl,rfl,rfl⟩
 ·rw[if_neg hl];rcases h2 with h2 | ⟨m,hm,hml⟩
  ·exact absurd h2 hl
  have ea:∀k,({ b with zG:=(b.zG++[(⟨t,0,pt0,-1,b.seq,-1⟩:PA)]).set b.last.toNat { b.zTP b.last.toNat with next:=b.zG.length },last:=b.zG.length }:PB).zTP k=if m=k then { b.zTP m with next:=b.zG.length } else if k=b.zG.length then⟨t,0,pt0,-1,b.seq,-1⟩else b.zTP k:=λk=>by
   unfold PB.zTP;dsimp only;rw[xX,qM,hm,Int.toNat_natCast];by_cases e:m=k
   ·subst e;rw[if_pos ⟨rfl,by simp;omega⟩,if_pos rfl]
   ·rw[if_neg (by omega),if_neg e]
  refine⟨by simp,by simp,rfl,rfl,rfl,rfl,rfl,?_,λk hk=>?_⟩
  ·rw[ea,if_neg (by omega),if_pos rfl]
  ·rw[ea];by_cases e:m=k
   ·subst e;rw[if_pos rfl];exact⟨rfl,rfl,rfl⟩
   ·rw[if_neg e,if_neg (by omega)];exact⟨rfl,rfl,rfl⟩
theorem zNO{b:PB}{l:List zTD}{stk:List Nat}{t:zTD}(h:b.Rel l stk)(hN:zF8 l)(hN':zF8 (l++[t]))(hk:wY t)(p:PT):(b.zS p).Rel (l++[t]) stk:=by
 obtain⟨a1,a2,a3,a4,a5,a6,a7,a8,a9⟩:=zAX p h.sq h.la;have hd:jW t=0:=by unfold jW;rcases hk with e | e | e | e <;> simp[e]
 have h6:t.kind≠6:=by rcases hk with e | e | e | e <;> omega
 have al:=h.al;have sl:=h.sl;have hsq:=h.sq;refine zFA h hN hN' hd h6 (by omega) (Or.inr ⟨b.zG.length,a3,by omega⟩) (λk hk'=>?_) (λk hk'=>?_) a5 a6 a7 (by omega) (λi hi=>?_) ?_ (by omega) (by omega)
 ·by_cases e:k=b.zG.length
  ·subst e;rw[a8];exact⟨b.seq,rfl,by omega⟩
  ·obtain⟨x,x1,x2⟩:=h.homes k (by omega);exact⟨x,by rw[(a9 k (by omega)).2.2];exact x1,by omega⟩
 ·by_cases e:k=b.zG.length
  ·subst e;rw[a8];simp
  ·rw[(a9 k (by omega)).1];exact h.nums k (by omega)
 ·have t1:=h.zNN i hi;have t2:=a9 _ t1.1;exact⟨t2.1,by rw[t2.2.1];exact t1.2.2.1,by rw[a3];have:=t1.1;omega⟩
 ·rw[a3];constructor
  ·intro _;unfold zEo;rcases hk with e | e | e | e <;> simp[e]
  ·intro _;refine⟨by omega,?_⟩;rw[Int.toNat_natCast,a8];rfl
theorem zPt{b:PB}{l:List zTD}{stk:List Nat}{t:zTD}(h:b.Rel l stk)(hN:zF8 l)(hN':zF8 (l++[t]))(hk:t.kind=8)(p:PT)(hp:p.kind=4)(hl:b.last≠-1):(b.repeated p).Rel (l++[t]) stk:=by
 have al:=h.al;have sl:=h.sl;rcases h.la with h2 | ⟨m,hm,hml⟩
 ·exact absurd h2 hl
 have ea:∀j,(b.repeated p).zTP j=if m=j then { b.zTP m with rep:=p } else b.zTP j:=λj=>by
  unfold PB.repeated PB.zTP;dsimp only;rw[xX,hm,Int.toNat_natCast];by_cases e:m=j
  ·subst e;rw[if_pos ⟨rfl,hml⟩,if_pos rfl]
  ·rw[if_neg (by omega),if_neg e]
 have ln:(b.repeated p).zG.length=b.zG.length:=by simp[PB.repeated]
 refine zFA h hN hN' (by unfold jW;simp[hk]) (by omega) h.sq (Or.inr ⟨m,hm,by omega⟩) (λk hk'=>?_) (λk hk'=>?_) rfl rfl rfl (by omega) (λi hi=>?_) ?_ (by omega) (show b.kN.length<=_ by omega)
 ·obtain⟨x,x1,x2⟩:=h.homes k (by omega);refine⟨x,?_,x2⟩;rw[ea];split
  ·rename_i e;subst e;exact x1
  ·exact x1
 ·have:=h.nums k (by omega);rw[ea];split
  ·rename_i e;subst e;exact this
  ·exact this
 ·have t1:=h.zNN i hi;have ne:m≠b.opn.getD i 0:=by have:=t1.2.2.2;omega
  rw[ea,if_neg ne];exact⟨rfl,t1.2.2.1,t1.2.2.2⟩
 ·constructor
  ·intro⟨_,x⟩;have e:(b.repeated p).last=m:=hm;rw[e,Int.toNat_natCast,ea,if_pos rfl]at x;simp only at x;omega
  ·intro x;unfold zEo at x;simp[hk]at x
theorem zPu{b:PB}{l:List zTD}{stk:List Nat}{t:zTD}(h:b.Rel l stk)(hN:zF8 l)(hN':zF8 (l++[t]))(hk:t.kind=5):b.bar.Rel (l++[t]) stk:=by
 have al:=h.al;have sl:=h.sl;have ln:b.bar.kN.length=b.kN.length+1:=by simp[PB.bar]
 refine zFA h hN hN' (by unfold jW;simp[hk]) (by omega) (by rw[ln];exact Nat.lt_succ_self _) (Or.inl rfl) (λk hk'=>?_) (λk hk'=>h.nums k hk') rfl rfl rfl (lG _) (λi hi=>?_) ?_ (show b.zG.length<=_ by omega) (by omega)
 ·obtain⟨x,x1,x2⟩:=h.homes k hk';exact⟨x,x1,by omega⟩
 ·have t1:=h.zNN i hi;exact⟨rfl,t1.2.2.1,by show _≠(-1:Int);omega⟩
 ·constructor
  ·intro⟨x,_⟩;exact absurd rfl x
  ·intro x;unfold zEo at x;simp[hk]at x
theorem zNP{b:PB}{l:List zTD}{stk:List Nat}{t:zTD}(h:b.Rel l stk)(hN:zF8 l)(hN':zF8 (l++[t]))(hk:t.kind=6)(hh:0<=t.zTF/\t.zTF<=4)(h9:jO t=true->zZ l<9):(b.kW (yC t)).Rel (l++[t]) (stk++[l.length]):=by
 obtain⟨a1,a2,a3,a4,a5,a6,a7,a8,a9⟩:=zAX (yC t) h.sq h.la;have al:=h.al;have sl:=h.sl;have hsq:=h.sq;have hgc:=zDL hk hh;have hd:jW t=1:=by unfold jW;simp[hk]
 have zTf:=fM l;have hgr:=h.gr
 have hn:∀cap:Bool,((b.zS (yC t)).number b.zG.length cap).zG.length=b.zG.length+1/\((b.zS (yC t)).number b.zG.length cap).kN=(b.zS (yC t)).kN/\((b.zS (yC t)).number b.zG.length cap).opn=b.opn/\((b.zS (yC t)).number b.zG.length cap).clo=b.clo/\((b.zS (yC t)).number b.zG.length cap).kR=b.kR+(if cap then 1 else 0) /\
   ((b.zS (yC t)).number b.zG.length cap).zTP b.zG.length=⟨yC t,if cap then(b.kR:Int)+1 else 0,pt0,-1,b.seq,-1⟩/\(∀k,k<b.zG.length->((b.zS (yC t)).number b.zG.length cap).zTP k=(b.zS (yC t)).zTP k):=by
  intro cap;generalize b.zS (yC t)=d at *;cases cap with
  | false=>exact⟨a1,rfl,a5,a7,a6,a8,λ_ _=>rfl⟩
  | true =>
   refine⟨by simp[PB.number,a1],rfl,a5,a7,by simp[PB.number,a6],?_,λk hk=>?_⟩
   ·show(d.zG.set b.zG.length { d.zTP b.zG.length with num:=(d.kR:Int)+1 }).getD b.zG.length pa0=_;rw[xX,if_pos ⟨rfl,by omega⟩,a8,a6];rfl
   ·show(d.zG.set b.zG.length _).getD k pa0=_;rw[xX,if_neg (by omega)];rfl
 obtain⟨n1,n2,n3,n4,n5,n6,n7⟩:=hn (decide ((yC t).group=1));unfold PB.kW;have n8:∀k,k<b.zG.length->(((b.zS (yC t)).number b.zG.length (decide ((yC t).group=1))).zTP k).num=(b.zTP k).num/\(((b.zS (yC t)).number b.zG.length (decide ((yC t).group=1))).zTP k).rep=(b.zTP k).rep/\(((b.zS (yC t)).number b.zG.length (decide ((yC t).group=1))).zTP k).home=(b.zTP k).home:=λk hk=>by rw[n7 k hk];exact a9 k hk
 have n2':((b.zS (yC t)).number b.zG.length (decide ((yC t).group=1))).kN.length=b.kN.length:=by rw[n2,a2]
 generalize (b.zS (yC t)).number b.zG.length (decide ((yC t).group=1))=e at *
 have ea:∀k,(e.into b.zG.length).zTP k=if b.zG.length=k then { e.zTP b.zG.length with body:=e.kN.length } else e.zTP k:=λk=>by
  show(e.zG.set b.zG.length _).getD k pa0=_;rw[xX];by_cases x:b.zG.length=k
  ·rw[if_pos ⟨x,by omega⟩,if_pos x]
  ·rw[if_neg (by omega),if_neg x];rfl
 have la:(e.into b.zG.length).zG.length=b.zG.length+1:=by simp[PB.into,n1]
 have ls:(e.into b.zG.length).kN.length=b.kN.length+1:=by simp[PB.into,n2']
 have lo:(e.into b.zG.length).opn=b.opn++[b.zG.length]:=by show e.opn++_=_;rw[n3]
 have num:(if decide ((yC t).group=1)=true then(b.kR:Int)+1 else 0)=if jO t=true then t.n else 0:=by
  cases hcp:jO t
  ·rw[hcp]at hgc;rw[if_neg (by simpa using hgc),if_neg (by simp)]
  ·rw[hcp]at hgc;rw[if_pos (by simpa using hgc),if_pos rfl];have:=hN' l.length (by simp) (by rw[qM,if_pos rfl];exact hcp);rw[qM,if_pos rfl,List.take_left]at this;omega
 have gl:∀j,j<l.length->(l++[t]).getD j jZ=l.getD j jZ:=λj hj=>by rw[qM,if_neg (by omega)]
 have q1:(stk++[l.length]).getD stk.length 0=l.length:=by rw[qM,if_pos rfl]
 have q2:(b.opn++[b.zG.length]).getD stk.length 0=b.zG.length:=by rw[qM,if_pos h.len.symm]
 have q3:(l++[t]).getD l.length jZ=t:=by rw[qM,if_pos rfl]
 have gs:∀i,i<stk.length->(stk++[l.length]).getD i 0=stk.getD i 0:=λi hi=>by rw[qM,if_neg (by omega)]
 have go:∀i,i<stk.length->(b.opn++[b.zG.length]).getD i 0=b.opn.getD i 0:=λi hi=>by rw[qM,if_neg (by rw[h.len];omega)]
 have hcl:∀j,j<l.length->(l.getD j jZ).kind=6->(jH (l++[t]) j<l.length+1↔jH l j<l.length):=by
  intro j hj hk';rw[bF l t j (by omega)];by_cases x:jH l j<l.length
  ·rw[if_pos x];exact⟨λ_=>x,λ_=>by omega⟩
  ·rw[if_neg x,hd]
   have:∃i,i<stk.length/\stk.getD i 0=j:=by
    refine Classical.byContradiction λhh=>x (h.oth j hj hk' (λi hi he=>hh ⟨i,hi,he⟩))
   obtain⟨i,hi,rfl⟩:=this;have:=(h.zM0 i hi).2.2.2;rw[if_neg (by omega)];exact⟨λy=>by omega,λy=>absurd y x⟩
 refine⟨by rw[ls];show e.kN.length<_;omega,Or.inl rfl,λk hk'=>?_,λk hk'=>?_,by rw[lo];simp[h.len],by rw[mD,hd,<-h.op];simp,?_,λi hi=>?_,λi hi=>?_,λj hj hkj hs=>?_,λi j hij hj=>?_,λk h1 h2=>?_,by show e.clo.length=10;rw[n4];exact h.cl,?_,by rw[la];simp;omega,by rw[ls];simp;omega⟩
 ·rw[la]at hk';rw[ea];split
  ·rw[n6];exact⟨b.seq,rfl,by omega⟩
  ·obtain⟨x,x1,x2⟩:=h.homes k (by omega);exact⟨x,by rw[(n8 k (by omega)).2.2];exact x1,by omega⟩
 ·rw[la]at hk';rw[ea];split
  ·rw[n6];dsimp only;rw[num];split
   ·rename_i hcp
    have:=hN' l.length (by simp) (by rw[qM,if_pos rfl];exact hcp);rw[qM,if_pos rfl,List.take_left]at this;have:=h9 hcp;omega
   ·omega
  ·rw[(n8 k (by omega)).1];exact h.nums k (by omega)
 ·show(e.kR:Int)=_;rw[n5,nJ];cases hcp:jO t
  ·rw[hcp]at hgc;rw[if_neg (by simpa using hgc)];simp;omega
  ·rw[hcp]at hgc;rw[if_pos (by simpa using hgc)];simp;omega
 ·simp only[lM,List.length_cons,List.length_nil]at hi;rw[lo];by_cases x:i<stk.length
  ·have t1:=h.zNN i x;have t3:=(h.zM0 i x).1;rw[go i x,gs i x,gl _ t3,ea,if_neg (by omega)];exact⟨by omega,by rw[(n8 _ t1.1).1];exact t1.2.1,by rw[(n8 _ t1.1).2.1];exact t1.2.2.1,by show _≠(-1:Int);omega⟩
  ·have ei:i=stk.length:=by omega
   subst ei;rw[q2,q1,q3,ea,if_pos rfl,n6];exact⟨by omega,num,rfl,by show _≠(-1:Int);omega⟩
 ·simp only[lM,List.length_cons,List.length_nil]at hi |-;by_cases x:i<stk.length
  ·obtain⟨s1,s2,s3,s4⟩:=h.zM0 i x;rw[gs i x,gl _ s1];refine⟨by omega,s2,?_,?_⟩
   ·rw[bF l t _ (by omega),if_neg (by omega),if_neg (by omega)]
   ·rw[List.drop_append_of_le_length (by omega),mD,s4,hd];omega
  ·have ei:i=stk.length:=by omega
   subst ei;rw[q1,q3];refine⟨by omega,hk,zDM l t (by omega),?_⟩;rw[List.drop_left];simp[kJ,hd];omega
 ·simp only[lM,List.length_cons,List.length_nil]at hj hs |-;by_cases x:j=l.length
  ·subst x;have:=hs stk.length (by omega);rw[qM,if_pos rfl]at this;exact absurd rfl this
  ·rw[gl j (by omega)]at hkj;exact(hcl j (by omega) hkj).2 (h.oth j (by omega) hkj (λi hi=>by have:=hs i (by omega);rwa [gs i hi]at this))
 ·simp only[lM,List.length_cons,List.length_nil]at hj;rw[lo,go i (by omega)];by_cases x:j<stk.length
  ·rw[go j x];exact h.inj i j hij x
  ·rw[qM,if_pos (by rw[h.len];omega)];exact(h.zNN i (by omega)).1
 ·show e.clo.getD k false=_;rw[n4,h.clo k h1 h2];have a:=cZ hN (k:Int);have b':=cZ hN' (k:Int);apply Bool.eq_iff_iff.2;rw[a,b'];constructor
  ·rintro⟨j,j1,j2,j3,j4⟩;refine⟨j,by simp;omega,by rw[gl j j1];exact j2,by rw[gl j j1];exact j3,?_⟩;have hk':(l.getD j jZ).kind=6:=by simp[jO]at j2;exact j2.1
   simp only[lM,List.length_cons,List.length_nil];exact(hcl j j1 hk').2 j4
  ·rintro⟨j,j1,j2,j3,j4⟩;simp only[lM,List.length_cons,List.length_nil]at j1 j4;by_cases x:j=l.length
   ·subst x;rw[zDM l t (by omega)]at j4;omega
   ·rw[gl j (by omega)]at j2 j3;have hk':(l.getD j jZ).kind=6:=by simp[jO]at j2;exact j2.1
    exact⟨j,by omega,j2,j3,(hcl j (by omega) hk').1 j4⟩
 ·rw[zAf];constructor
  ·intro⟨x,_⟩;exact absurd rfl x
  ·intro x;unfold zEo at x;simp[hk]at x
theorem zBR{α:Type}(l:List α)(i:Nat)(d:α)(h:i+1<l.length):l.dropLast.getD i d=l.getD i d:=by
 rw[lH,lH,List.getElem?_dropLast,if_pos (by omega)]
theorem zBs{α:Type}(l:List α)(d:α)(h:0<l.length):l.getLastD d=l.getD (l.length-1) d:=by
 rw[List.getLastD_eq_getLast?,List.getLast?_eq_getElem?,lH]
theorem zLK{b:PB}{l:List zTD}{stk:List Nat}{t:zTD}(h:b.Rel l stk)(hN:zF8 l)(hN':zF8 (l++[t]))(hk:t.kind=7)(hp:0<stk.length):b.close.Rel (l++[t]) stk.dropLast:=by
 have al:=h.al;have sl:=h.sl;have hd:jW t=-1:=by unfold jW;simp[hk]
 have hcap:jO t=false:=by unfold jO;simp[hk]
 have hlen:=h.len;have htop:b.top=b.opn.getD (stk.length-1) 0:=by unfold PB.top;rw[zBs _ _ (by omega),hlen]
 have T:=h.zNN (stk.length-1) (by omega);have S:=h.zM0 (stk.length-1) (by omega);rw[<-htop]at T;obtain⟨hm,hm1,hm2⟩:=h.homes b.top T.1;have gl:∀j,j<l.length->(l++[t]).getD j jZ=l.getD j jZ:=λj hj=>by rw[qM,if_neg (by omega)]
 have dl:stk.dropLast.length=stk.length-1:=by simp
 have gs:∀i,i<stk.length-1->stk.dropLast.getD i 0=stk.getD i 0:=λi hi=>zBR _ _ _ (by omega)
 have go:∀i,i<stk.length-1->b.opn.dropLast.getD i 0=b.opn.getD i 0:=λi hi=>zBR _ _ _ (by omega)
 have hcl:∀j,j<l.length->(l.getD j jZ).kind=6->(jH (l++[t]) j<l.length+1↔jH l j<l.length\/j=stk.getD (stk.length-1) 0):=by
  intro j hj hk';rw[bF l t j (by omega)];by_cases x:jH l j<l.length
  ·rw[if_pos x];exact⟨λ_=>Or.inl x,λ_=>by omega⟩
  ·rw[if_neg x,hd]
   have:∃i,i<stk.length/\stk.getD i 0=j:=by
    refine Classical.byContradiction λhh=>x (h.oth j hj hk' (λi hi he=>hh ⟨i,hi,he⟩))
   obtain⟨i,hi,rfl⟩:=this;have o:=(h.zM0 i hi).2.2.2;by_cases z:i=stk.length-1
   ·subst z;rw[if_pos (by omega)];exact⟨λ_=>Or.inr rfl,λ_=>by omega⟩
   ·rw[if_neg (by omega)];refine⟨λy=>by omega,λy=>?_⟩;rcases y with y | y
    ·exact absurd y x
    ·have o2:=S.2.2.2;rw[<-y]at o2;omega
 have zKO:(b.zTP b.top).num.toNat<10:=by have:=h.nums b.top T.1;omega
 have hsq:=h.sq;refine⟨?_,Or.inr ⟨b.top,rfl,T.1⟩,h.homes,h.nums,by show b.opn.dropLast.length=_;simp[hlen],?_,by show(b.kR:Int)=_;rw[h.gr,nJ,hcap];simp,λi hi=>?_,λi hi=>?_,λj hj hkj hs=>?_,λi j hij hj=>?_,λk h1 h2=>?_,by show(b.clo.set _ _).length=10;rw[List.length_set];exact h.cl,?_,by show b.zG.length<=_;simp;omega,by show b.kN.length<=_;simp;omega⟩
 ·show(b.zTP b.top).home.toNat<b.kN.length;rw[hm1];simpa using hm2
 ·rw[mD,hd,<-h.op,dl];omega
 ·rw[dl]at hi;show b.opn.dropLast.getD i 0<_/\(b.zTP (b.opn.dropLast.getD i 0)).num=_/\(b.zTP (b.opn.dropLast.getD i 0)).rep.kind=0/\(b.opn.dropLast.getD i 0:Int)≠b.top;have t1:=h.zNN i (by omega);have t3:=(h.zM0 i (by omega)).1;rw[go i hi,gs i hi,gl _ t3];refine⟨t1.1,t1.2.1,t1.2.2.1,?_⟩;have:=h.inj i (stk.length-1) (by omega) (by omega);rw[<-htop]at this;omega
 ·rw[dl]at hi;obtain⟨s1,s2,s3,s4⟩:=h.zM0 i (by omega);rw[gs i hi,gl _ s1];refine⟨by simp only[lM,List.length_cons,List.length_nil];omega,s2,?_,?_⟩
  ·rw[bF l t _ (by omega),if_neg (by omega),if_neg (by omega)];simp
  ·rw[List.drop_append_of_le_length (by omega),mD,s4,hd,dl];omega
 ·simp only[lM,List.length_cons,List.length_nil]at hj |-;by_cases x:j=l.length
  ·subst x;rw[qM,if_pos rfl]at hkj;omega
  ·rw[gl j (by omega)]at hkj;refine(hcl j (by omega) hkj).2 ?_;by_cases y:j=stk.getD (stk.length-1) 0
   ·exact Or.inr y
   ·refine Or.inl (h.oth j (by omega) hkj (λi hi=>?_));by_cases z:i=stk.length-1
    ·subst z;exact Ne.symm y
    ·have:=hs i (by rw[dl];omega)
     rwa [gs i (by omega)]at this
 ·rw[dl]at hj;show b.opn.dropLast.getD i 0<b.opn.dropLast.getD j 0;rw[go i (by omega),go j (by omega)];exact h.inj i j hij (by omega)
 ·show(b.clo.set (b.zTP b.top).num.toNat true).getD k false=_;rw[xX];have a:=cZ hN (k:Int);have b':=cZ hN' (k:Int);have hc:=h.clo k h1 h2
  have e1:closed (l++[t]) (k:Int)=true↔(closed l (k:Int)=true\/(b.zTP b.top).num=k):=by
   rw[a,b'];constructor
   ·rintro⟨j,j1,j2,j3,j4⟩;simp only[lM,List.length_cons,List.length_nil]at j1 j4;by_cases x:j=l.length
    ·subst x;rw[qM,if_pos rfl,hcap]at j2;simp at j2
    ·rw[gl j (by omega)]at j2 j3;have hk':(l.getD j jZ).kind=6:=by simp[jO]at j2;exact j2.1
     rcases(hcl j (by omega) hk').1 j4 with y | y
     ·exact Or.inl ⟨j,by omega,j2,j3,y⟩
     ·right;rw[T.2.1,<-y,if_pos j2,j3]
   ·rintro(⟨j,j1,j2,j3,j4⟩ | y)
    ·refine⟨j,by simp;omega,by rw[gl j j1];exact j2,by rw[gl j j1];exact j3,?_⟩;have hk':(l.getD j jZ).kind=6:=by simp[jO]at j2;exact j2.1
     simp only[lM,List.length_cons,List.length_nil];exact(hcl j j1 hk').2 (Or.inl j4)
    ·rw[T.2.1]at y;by_cases z:jO (l.getD (stk.getD (stk.length-1) 0) jZ)=true
     ·rw[if_pos z]at y;refine⟨stk.getD (stk.length-1) 0,by simp only[lM,List.length_cons,List.length_nil];have:=S.1;omega,by rw[gl _ S.1];exact z,by rw[gl _ S.1];exact y,?_⟩;simp only[lM,List.length_cons,List.length_nil];exact(hcl _ S.1 S.2.1).2 (Or.inr rfl)
     ·rw[if_neg z]at y;omega
  by_cases z:(b.zTP b.top).num=k
  ·have zk:(b.zTP b.top).num.toNat=k/\k<10:=by clear a b' e1 hcl hc;omega
   rw[if_pos ⟨zk.1,by rw[h.cl];exact zk.2⟩,(e1.2 (Or.inr z))]
  ·have:=h.nums b.top T.1;have zk:¬(b.zTP b.top).num.toNat=k:=by clear a b' e1 hcl hc;omega
   rw[if_neg (λx=>zk x.1),hc];apply Bool.eq_iff_iff.2;rw[e1];exact⟨Or.inl,λx=>by rcases x with x | x;exact x;exact absurd x z⟩
 ·rw[zAf];show((b.top:Int)≠-1/\(b.zTP (b.top:Int).toNat).rep.kind=0)↔_;rw[Int.toNat_natCast];exact⟨λ_=>by unfold zEo;simp[hk],λ_=>⟨by omega,T.2.2.1⟩⟩
theorem zI0{b:PB}{l:List zTD}{stk:List Nat}{t:zTD}(h:b.Rel l stk)(hN:zF8 l)(hg:zCD t):b.err (yC t)=may l t:=by
 obtain⟨⟨k1,k2⟩,g2,g3,g4,g5⟩:=hg;have hk:t.kind=1\/t.kind=2\/t.kind=3\/t.kind=4\/t.kind=5\/t.kind=6\/t.kind=7\/t.kind=8:=by omega
 have hop:=h.op;have hlen:=h.len;have hgr:=h.gr;rcases hk with e | e | e | e | e | e | e | e
 ·unfold PB.err may;rw[jP,e];simp[zJ6]
 ·obtain⟨n1,n2⟩:=g3 e;have hn:(yC t).number=t.n:=by simp[yC,e]
  have eL:b.err (yC t)=if(b.kR:Int)<t.n\/b.clo.getD t.n.toNat false=false then 6 else 0:=by
   unfold PB.err;rw[jP,e,if_neg (by decide),if_neg (by decide),if_neg (by decide),if_neg (by decide),if_pos (by decide),hn]
  have eR:may l t=if closed l t.n then 0 else 6:=by unfold may;rw[if_pos e]
  rw[eL,eR];have hc:=h.clo t.n.toNat (by omega) (by omega);rw[show((t.n.toNat:Nat):Int)=t.n by omega]at hc;rw[hc];cases hcl:closed l t.n
  ·rw[if_pos (Or.inr rfl)];rfl
  ·have:=(cZ hN t.n).1 hcl;obtain⟨j,j1,j2,j3,j4⟩:=this;have a:=hN j j1 j2;have c:=nH l j j1;rw[if_pos j2]at c;have d:=zAe l (j+1) (l.length-(j+1)) (by omega);rw[show j+1+(l.length-(j+1))=l.length by omega,List.take_length]at d;rw[if_neg (by simp;omega)];rfl
 ·unfold PB.err may;rw[jP,e];simp[zJ6]
 ·unfold PB.err may;rw[jP,e];simp[zJ6]
 ·unfold PB.err may;rw[jP,e];simp[zJ6]
 ·have hgc:=zDL e (g4 e)
  have eL:b.err (yC t)=if 10<=b.opn.length then 8 else if(yC t).group=1/\9<=b.kR then 9 else 0:=by
   unfold PB.err;rw[jP,e,if_neg (by decide),if_pos (by decide)]
  have eR:may l t=if 10<=kJ l then 8 else if t.zTF=4/\9<=zZ l then 9 else 0:=by unfold may;rw[if_neg (by omega),if_neg (by omega),if_pos e]
  rw[eL,eR];by_cases x:10<=kJ l
  ·rw[if_pos x,if_pos (by omega)]
  ·rw[if_neg x,if_neg (by omega)];by_cases y:t.zTF=4/\9<=zZ l
   ·rw[if_pos y,if_pos ⟨hgc.2 (by unfold jO;simp[e,y.1]),by omega⟩]
   ·rw[if_neg y,if_neg];rintro⟨z1,z2⟩;have:=hgc.1 z1;simp[jO]at this;exact y ⟨this.2,by omega⟩
 ·have eL:b.err (yC t)=if b.opn.length=0 then 10 else 0:=by
   unfold PB.err;rw[jP,e,if_neg (by decide),if_neg (by decide),if_pos (by decide)]
  have eR:may l t=if kJ l=0 then 10 else 0:=by unfold may;rw[if_neg (by omega),if_neg (by omega),if_neg (by omega),if_pos e]
  rw[eL,eR];by_cases x:kJ l=0
  ·rw[if_pos x,if_pos (by omega)]
  ·rw[if_neg x,if_neg (by omega)]
 ·have eL:b.err (yC t)=if b.last=-1\/(b.zTP b.last.toNat).rep.kind≠0 then 7 else 0:=by
   unfold PB.err;rw[jP,e,if_neg (by decide),if_neg (by decide),if_neg (by decide),if_pos (by decide)]
  have eR:may l t=if xD l then 0 else 7:=by unfold may;rw[if_neg (by omega),if_pos e]
  rw[eL,eR];have hen:=h.en;cases ha:xD l
  ·rw[ha]at hen;rw[if_pos]
   ·rfl
   ·by_cases x:b.last=-1
    ·exact Or.inl x
    ·exact Or.inr λy=>by simpa using hen.1 ⟨x,y⟩
  ·rw[ha]at hen;have:=hen.2 rfl;rw[if_neg (by rintro(x | x);exact this.1 x;exact x this.2)];rfl
theorem zAY{l:List zTD}(h:Valid l):zF8 l:=λj hj hc=>(h j hj).2.2 hc
theorem zDN(l:List zTD)(t:zTD):yC (yQ l t)=yC t:=by
 unfold yQ;split
 ·rename_i h
  have:t.kind=6:=by simp[jO]at h;exact h.1
  unfold yC;simp[this]
 ·rfl
theorem zNQ{b:PB}{l:List zTD}{stk:List Nat}{t:zTD}(h:b.Rel l stk)(hv:Valid l)(hg:zCD t)(hm:may l t=0):∃zRu,(b.next (yC t)).Rel (l++[yQ l t]) zRu:=by
 have hN:=zAY hv;have hN':=zAY (zCd hv hg hm);have jk:=wZ l t;have zRv:=zI0 h hN hg;rw[hm]at zRv;obtain⟨⟨k1,k2⟩,g2,g3,g4,g5⟩:=hg;have hk:t.kind=1\/t.kind=2\/t.kind=3\/t.kind=4\/t.kind=5\/t.kind=6\/t.kind=7\/t.kind=8:=by omega
 have leaf:wY t->∃zRu,(b.next (yC t)).Rel (l++[yQ l t]) zRu:=λhl=>by
  rw[zGT b hl];exact⟨stk,zNO h hN hN' (by unfold wY at *;rw[jk.1];exact hl) _⟩
 rcases hk with e | e | e | e | e | e | e | e
 ·exact leaf (Or.inl e)
 ·exact leaf (Or.inr (Or.inl e))
 ·exact leaf (Or.inr (Or.inr (Or.inl e)))
 ·exact leaf (Or.inr (Or.inr (Or.inr e)))
 ·rw[zC3 b e];exact⟨stk,zPu h hN hN' (by rw[jk.1];exact e)⟩
 ·rw[zBF b e,<-zDN l t];refine⟨stk++[l.length],zNP h hN hN' (by rw[jk.1];exact e) (by rw[jk.2.1];exact g4 e) (λhc=>?_)⟩;have hc':t.zTF=4:=by simp[jO]at hc;rw[<-jk.2.1];exact hc.2
  unfold may at hm;rw[if_neg (by omega),if_neg (by omega),if_pos e]at hm;by_cases x:10<=kJ l
  ·rw[if_pos x]at hm;omega
  ·rw[if_neg x]at hm;by_cases y:t.zTF=4/\9<=zZ l
   ·rw[if_pos y]at hm;omega
   ·have:¬9<=zZ l:=λz=>y ⟨hc',z⟩
    omega
 ·rw[zAN b e]
  have ho:¬kJ l=0:=λx=>by
   unfold may at hm;rw[if_neg (by omega),if_neg (by omega),if_neg (by omega),if_pos e,if_pos x]at hm;omega
  have:=h.op;exact⟨stk.dropLast,zLK h hN hN' (by rw[jk.1];exact e) (by omega)⟩
 ·rw[zIZ b e];refine⟨stk,zPt h hN hN' (by rw[jk.1];exact e) _ (by rw[jP,e];decide) (λx=>?_)⟩;unfold PB.err at zRv;rw[jP,e,if_neg (by decide),if_neg (by decide),if_neg (by decide),if_pos (by decide),if_pos (Or.inl x)]at zRv;omega
