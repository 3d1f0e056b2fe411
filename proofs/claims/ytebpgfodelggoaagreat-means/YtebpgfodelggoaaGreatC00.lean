import Derived.Test.YtebpgfodelggoaaGreatA
import Derived.Below
set_option linter.all false
namespace Mt
def zI(p:BA)(i:Int):Int:=if i<0\/(p.size:Int)<=i then -1 else((p.data.toList.getD i.toNat 0).toNat:Int)
theorem KA p i:-1<=zI p i:=by unfold zI;split <;> omega
theorem BI p i:zI p i<=255:=by
 unfold zI;split
 ·omega
 ·have:=(p.data.toList.getD i.toNat 0).toNat_lt;omega
theorem BJ p i(h:i<0\/(p.size:Int)<=i):zI p i=-1:=by unfold zI;rw[lG h]
theorem KC p i(j:0<=i)(h:i<(p.size:Int)):zI p i=((p.data.toList.getD i.toNat 0).toNat:Int):=by
 unfold zI;rw[lC (by omega)]
theorem uR p i(h:0<=zI p i):0<=i/\i<(p.size:Int):=by
 unfold zI at h;split at h <;> omega
def bn(c:Int):Bool:=decide (48<=c/\c<=57)
def aX(c:Int):Bool:=decide ((97<=c/\c<=122)\/(65<=c/\c<=90))
def zF(p:BA)(i:Int):Int × Int:=
 if zI p i<0\/zI p i=93\/zI p i=45 then(0,0)
 else if zI p i≠92 then(zI p i,1)
 else if zI p (i+1)<0\/bn (zI p (i+1))=true\/aX (zI p (i+1))=true then(0,0)
 else(zI p (i+1),2)
theorem JN p i:
  (decide (zI p i<0)=true/\zF p i=(0,0))\/
  (0<=zI p i/\decide (zI p i<0)=false/\
   (
   ((zI p i==93)=true/\zF p i=(0,0))\/
   ((zI p i==93)=false/\(zI p i==45)=true/\zF p i=(0,0))\/
   ((zI p i==93)=false/\(zI p i==45)=false/\(zI p i != 92)=true/\zF p i=(zI p i,1))\/
   ((zI p i==93)=false/\(zI p i==45)=false/\(zI p i != 92)=false/\decide (zI p (i+1)<0)=true/\zF p i=(0,0))\/
   ((zI p i==93)=false/\(zI p i==45)=false/\(zI p i != 92)=false/\0<=zI p (i+1)/\decide (zI p (i+1)<0)=false/\bn (zI p (i+1))=true/\zF p i=(0,0))\/
   ((zI p i==93)=false/\(zI p i==45)=false/\(zI p i != 92)=false/\0<=zI p (i+1)/\decide (zI p (i+1)<0)=false/\bn (zI p (i+1))=false/\aX (zI p (i+1))=true/\zF p i=(0,0))\/
   ((zI p i==93)=false/\(zI p i==45)=false/\(zI p i != 92)=false/\0<=zI p (i+1)/\decide (zI p (i+1)<0)=false/\bn (zI p (i+1))=false/\aX (zI p (i+1))=false/\zF p i=(zI p (i+1),2)))):=by
 unfold zF;generalize zI p i=c;generalize zI p (i+1)=d;simp only[gM,lW,oU,gP,iX,wR];by_cases h:c<0\/c=93\/c=45
 ·rw[lG h];simp;omega
 ·rw[lC h];by_cases j:c≠92
  ·rw[lG j];simp;omega
  ·rw[lC j];cases I:bn d <;> cases J:aX d <;> simp <;> by_cases G:d<0 <;> simp[G] <;> omega
theorem mQ p i:0<=(zF p i).1/\(zF p i).1<=255/\0<=(zF p i).2/\(zF p i).2<=2:=by
 have h:=BI p i;have j:=BI p (i+1);unfold zF;split
 ·simp
 ·split
  ·simp only;omega
  ·split
   ·simp
   ·simp only;omega
def zf(w:Bool)(c:Int):Bool:=bn c||(w&&(aX c||decide (c=95)))
def jS(p:BA)(i:Int):Int × Int × Int × Bool:=
 if zI p i=92/\(zI p (i+1)=100\/zI p (i+1)=119)then(92,zI p (i+1),2,true)
 else if(zF p i).2=0 then(0,0,0,false)
 else if zI p (i+(zF p i).2)≠45 then((zF p i).1,(zF p i).1,(zF p i).2,false)
 else if(zF p (i+(zF p i).2+1)).2=0\/(zF p (i+(zF p i).2+1)).1<(zF p i).1 then(0,0,0,false)
 else((zF p i).1,(zF p (i+(zF p i).2+1)).1,(zF p i).2+1+(zF p (i+(zF p i).2+1)).2,false)
theorem Ua p i:
  ((zI p i==92)=true/\(zI p (i+1)==100)=true/\0<=zI p (i+1)/\jS p i=(92,zI p (i+1),2,true))\/
  ((zI p i==92)=true/\(zI p (i+1)==100)=false/\(zI p (i+1)==119)=true/\0<=zI p (i+1)/\jS p i=(92,zI p (i+1),2,true))\/
  ((
   (zI p i==92)=false\/(zI p i==92)=true/\(zI p (i+1)==100)=false/\(zI p (i+1)==119)=false)/\
   (
   (((zF p i).2==0)=true/\jS p i=(0,0,0,false))\/
   (((zF p i).2==0)=false/\(zI p (i+(zF p i).2) != 45)=true/\jS p i=((zF p i).1,(zF p i).1,(zF p i).2,false))\/
   (((zF p i).2==0)=false/\(zI p (i+(zF p i).2) != 45)=false/\((zF p (i+(zF p i).2+1)).2==0)=true/\jS p i=(0,0,0,false))\/
   (((zF p i).2==0)=false/\(zI p (i+(zF p i).2) != 45)=false/\((zF p (i+(zF p i).2+1)).2==0)=false/\decide ((zF p (i+(zF p i).2+1)).1<(zF p i).1)=true/\jS p i=(0,0,0,false))\/
   ((
    (zF p i).2==0)=false/\(zI p (i+(zF p i).2) != 45)=false/\((zF p (i+(zF p i).2+1)).2==0)=false/\decide ((zF p (i+(zF p i).2+1)).1<(zF p i).1)=false/\
    jS p i=((zF p i).1,(zF p (i+(zF p i).2+1)).1,(zF p i).2+1+(zF p (i+(zF p i).2+1)).2,false)))):=by
 unfold jS;generalize zF p (i+(zF p i).2+1)=y;generalize zI p (i+(zF p i).2)=z;generalize zF p i=x;generalize zI p i=c;generalize zI p (i+1)=d;simp only[gM,lW,oU,gP,iX,wR];by_cases h:c=92/\(d=100\/d=119)
 ·rw[lG h];rcases h with ⟨rfl,rfl | rfl⟩ <;> simp
 ·rw[lC h];right;right;refine⟨by omega,?_⟩;by_cases j:x.2=0
  ·rw[lG j];simp[j]
  ·rw[lC j];by_cases G:z≠45
   ·rw[lG G];simp;omega
   ·rw[lC G];by_cases I:y.2=0\/y.1<x.1
    ·rw[lG I];simp;omega
    ·rw[lC I];simp;omega
theorem qy p i:0<=(jS p i).1/\(jS p i).1<=255/\0<=(jS p i).2.1/\(jS p i).2.1<=255/\0<=(jS p i).2.2.1/\(jS p i).2.2.1<=5:=by
 have h:=mQ p i;have j:=mQ p (i+(zF p i).2+1);unfold jS;split
 ·simp only;omega
 ·split
  ·simp
  ·split
   ·simp only;omega
   ·split
    ·simp
    ·simp only;omega
def ZH(p:BA)(b c:Int):Nat->Int->Bool
 | 0,_=>false
 | f+1,i =>
  if b<=i then false
  else if(jS p i).2.2.1=0 then false
  else if(jS p i).2.2.2 then(if zf (decide ((jS p i).2.1=119)) c then true else ZH p b c f (i+(jS p i).2.2.1))
  else if(jS p i).1<=c/\c<=(jS p i).2.1 then true
  else ZH p b c f (i+(jS p i).2.2.1)
theorem ZI p b c:∀(f g:Nat)(i:Int),b-i<=f->b-i<=g->ZH p b c f i=ZH p b c g i:=by
 intro f;induction f with
 | zero =>
  intro g i j G;cases g with
  | zero=>rfl
  | succ g=>simp only[ZH];rw[lG (by omega)]
 | succ f I =>
  intro g i j G;cases g with
  | zero=>simp only[ZH];rw[lG (by omega)]
  | succ g =>
   simp only[ZH];have J:=qy p i;by_cases h:(jS p i).2.2.1=0
   ·simp[h]
   ·rw[I g (i+(jS p i).2.2.1) (by omega) (by omega)]
def yF(p:BA)(a b c:Int):Bool:=ZH p b c (b-a).toNat a
theorem pK p i b c:yF p i b c=
  if b<=i then false
  else if(jS p i).2.2.1=0 then false
  else if(jS p i).2.2.2 then(if zf (decide ((jS p i).2.1=119)) c then true else yF p (i+(jS p i).2.2.1) b c)
  else if(jS p i).1<=c/\c<=(jS p i).2.1 then true
  else yF p (i+(jS p i).2.2.1) b c:=by
 have G:=qy p i;by_cases h:b<=i
 ·rw[lG h];unfold yF;rw[show(b-i).toNat=0 by omega];rfl
 ·rw[lC h];by_cases j:(jS p i).2.2.1=0
  ·rw[lG j];unfold yF;rw[show(b-i).toNat=(b-i).toNat-1+1 by omega];simp only[ZH];rw[lC h,lG j]
  ·rw[lC j];have e:ZH p b c ((b-i).toNat-1) (i+(jS p i).2.2.1)=yF p (i+(jS p i).2.2.1) b c:=ZI _ _ _ _ _ _ (by omega) (by omega);rw[<-e];unfold yF;rw[show(b-i).toNat=(b-i).toNat-1+1 by omega];simp only[ZH];rw[lC h,lC j];rfl
def iw(p:BA)(a b:Int)(no:Bool)(n:Nat):List UInt8:=((List.range n).filter λc:Nat=>yF p a b (c:Int) != no).map UInt8.ofNat
def all(p:BA)(a b:Int)(no:Bool):List UInt8:=iw p a b no 256
def number(p:BA)(i:Int):Int × Int:=
 if zI p i<48\/57<zI p i then(0,0)
 else if zI p (i+1)<48\/57<zI p (i+1)then(zI p i-48,1)
 else(10*(zI p i-48)+zI p (i+1)-48,2)
theorem OY p i:
  (decide (zI p i<48)=true/\number p i=(0,0))\/(decide (zI p i<48)=false/\decide (57<zI p i)=true/\number p i=(0,0))\/
  (48<=zI p i/\zI p i<=57/\decide (zI p i<48)=false/\decide (57<zI p i)=false/\
   (
   (decide (zI p (i+1)<48)=true/\number p i=(zI p i-48,1))\/
   (decide (zI p (i+1)<48)=false/\decide (57<zI p (i+1))=true/\number p i=(zI p i-48,1))\/
   (48<=zI p (i+1)/\zI p (i+1)<=57/\decide (zI p (i+1)<48)=false/\decide (57<zI p (i+1))=false/\number p i=(10*(zI p i-48)+zI p (i+1)-48,2)))):=by
 unfold number;generalize zI p i=c;generalize zI p (i+1)=d;simp only[gM,lW];by_cases h:c<48\/57<c
 ·rw[lG h];simp;omega
 ·rw[lC h];by_cases j:d<48\/57<d
  ·rw[lG j];simp;omega
  ·rw[lC j];simp;omega
theorem cK p i:0<=(number p i).1/\(number p i).1<=99/\0<=(number p i).2/\(number p i).2<=2:=by
 unfold number;split
 ·simp
 ·split
  ·simp only;omega
  ·simp only;omega
def count(p:BA)(i:Int):Int × Int × Int × Bool:=
 if(number p (i+1)).2=0\/20<(number p (i+1)).1 then(0,0,0,false)
 else if zI p (i+1+(number p (i+1)).2)=125 then((number p (i+1)).1,(number p (i+1)).1,i+1+(number p (i+1)).2+1,true)
 else if zI p (i+1+(number p (i+1)).2)≠44 then(0,0,0,false)
 else if zI p (i+1+(number p (i+1)).2+1)=125 then((number p (i+1)).1,-1,i+1+(number p (i+1)).2+2,true)
 else if(number p (i+1+(number p (i+1)).2+1)).2=0\/20<(number p (i+1+(number p (i+1)).2+1)).1\/(number p (i+1+(number p (i+1)).2+1)).1<(number p (i+1)).1\/
   zI p (i+1+(number p (i+1)).2+1+(number p (i+1+(number p (i+1)).2+1)).2)≠125 then(0,0,0,false)
 else((number p (i+1)).1,(number p (i+1+(number p (i+1)).2+1)).1,i+1+(number p (i+1)).2+2+(number p (i+1+(number p (i+1)).2+1)).2,true)
theorem Ja p i:
  (((number p (i+1)).2==0)=true/\count p i=(0,0,0,false))\/
  (((number p (i+1)).2==0)=false/\decide (20<(number p (i+1)).1)=true/\count p i=(0,0,0,false))\/
  ((
   (number p (i+1)).2==0)=false/\decide (20<(number p (i+1)).1)=false/\
   (
   ((zI p (i+1+(number p (i+1)).2)==125)=true/\count p i=((number p (i+1)).1,(number p (i+1)).1,i+1+(number p (i+1)).2+1,true))\/
   ((zI p (i+1+(number p (i+1)).2)==125)=false/\(zI p (i+1+(number p (i+1)).2) != 44)=true/\count p i=(0,0,0,false))\/
   ((
    zI p (i+1+(number p (i+1)).2)==125)=false/\(zI p (i+1+(number p (i+1)).2) != 44)=false/\
    (
     ((zI p (i+1+(number p (i+1)).2+1)==125)=true/\count p i=((number p (i+1)).1,-1,i+1+(number p (i+1)).2+2,true))\/
     ((
      zI p (i+1+(number p (i+1)).2+1)==125)=false/\
      (
      (((number p (i+1+(number p (i+1)).2+1)).2==0)=true/\count p i=(0,0,0,false))\/
      (((number p (i+1+(number p (i+1)).2+1)).2==0)=false/\decide (20<(number p (i+1+(number p (i+1)).2+1)).1)=true/\count p i=(0,0,0,false))\/
      (((number p (i+1+(number p (i+1)).2+1)).2==0)=false/\decide (20<(number p (i+1+(number p (i+1)).2+1)).1)=false/\decide ((number p (i+1+(number p (i+1)).2+1)).1<(number p (i+1)).1)=true/\count p i=(0,0,0,false))\/
      ((
       (number p (i+1+(number p (i+1)).2+1)).2==0)=false/\decide (20<(number p (i+1+(number p (i+1)).2+1)).1)=false/\decide ((number p (i+1+(number p (i+1)).2+1)).1<(number p (i+1)).1)=false/\
       (zI p (i+1+(number p (i+1)).2+1+(number p (i+1+(number p (i+1)).2+1)).2) != 125)=true/\count p i=(0,0,0,false))\/
      ((
       (number p (i+1+(number p (i+1)).2+1)).2==0)=false/\decide (20<(number p (i+1+(number p (i+1)).2+1)).1)=false/\decide ((number p (i+1+(number p (i+1)).2+1)).1<(number p (i+1)).1)=false/\
       (zI p (i+1+(number p (i+1)).2+1+(number p (i+1+(number p (i+1)).2+1)).2) != 125)=false/\
       count p i=((number p (i+1)).1,(number p (i+1+(number p (i+1)).2+1)).1,i+1+(number p (i+1)).2+2+(number p (i+1+(number p (i+1)).2+1)).2,true)))))))):=by
 unfold count;generalize zI p (i+1+(number p (i+1)).2+1+(number p (i+1+(number p (i+1)).2+1)).2)=z;generalize number p (i+1+(number p (i+1)).2+1)=y;generalize zI p (i+1+(number p (i+1)).2+1)=d;generalize zI p (i+1+(number p (i+1)).2)=c;generalize number p (i+1)=x;simp only[gM,lW,oU,gP,iX,wR];by_cases h:x.2=0\/20<x.1
 ·rw[lG h];simp;omega
 ·rw[lC h];by_cases j:c=125
  ·rw[lG j];simp;omega
  ·rw[lC j];by_cases G:c≠44
   ·rw[lG G];simp;omega
   ·rw[lC G];by_cases I:d=125
    ·rw[lG I];simp;omega
    ·rw[lC I];by_cases J:y.2=0\/20<y.1\/y.1<x.1\/z≠125
     ·rw[lG J];simp;omega
     ·rw[lC J];simp;omega
theorem ZJ p i(G:0<=i):0<=(count p i).1/\(count p i).1<=20/\-1<=(count p i).2.1/\(count p i).2.1<=20/\0<=(count p i).2.2.1/\(count p i).2.2.1<=i+7:=by
 have h:=cK p (i+1);have j:=cK p (i+1+(number p (i+1)).2+1);unfold count;split
 ·simp;omega
 ·split
  ·simp only;omega
  ·split
   ·simp;omega
   ·split
    ·simp only;omega
    ·split
     ·simp;omega
     ·simp only;omega
structure zU where
 kind:Int
 jK:Int
 to:Int
 n:Int
 m:Int
 jB:Int
 set:List UInt8
def kU(p:BA)(i:Int):zU × Bool:=
 if zI p (i+1)≠63 then(⟨6,i,i+1,0,0,4,[]⟩,true)
 else if zI p (i+2)=58 then(⟨6,i,i+3,0,0,3,[]⟩,true)
 else if zI p (i+2)=62 then(⟨6,i,i+3,0,0,0,[]⟩,true)
 else if zI p (i+2)=61 then(⟨6,i,i+3,0,0,1,[]⟩,true)
 else if zI p (i+2)=33 then(⟨6,i,i+3,0,0,2,[]⟩,true)
 else(⟨6,i,i+3,0,0,4,[]⟩,false)
theorem qz p i:
  ((zI p (i+1) != 63)=true/\kU p i=(⟨6,i,i+1,0,0,4,[]⟩,true))\/
  ((
   zI p (i+1) != 63)=false/\
   (
   ((zI p (i+2)==58)=true/\kU p i=(⟨6,i,i+3,0,0,3,[]⟩,true))\/
   ((zI p (i+2)==58)=false/\(zI p (i+2)==62)=true/\kU p i=(⟨6,i,i+3,0,0,0,[]⟩,true))\/
   ((zI p (i+2)==58)=false/\(zI p (i+2)==62)=false/\(zI p (i+2)==61)=true/\kU p i=(⟨6,i,i+3,0,0,1,[]⟩,true))\/
   ((zI p (i+2)==58)=false/\(zI p (i+2)==62)=false/\(zI p (i+2)==61)=false/\(zI p (i+2)==33)=true/\kU p i=(⟨6,i,i+3,0,0,2,[]⟩,true))\/
   ((zI p (i+2)==58)=false/\(zI p (i+2)==62)=false/\(zI p (i+2)==61)=false/\(zI p (i+2)==33)=false/\kU p i=(⟨6,i,i+3,0,0,4,[]⟩,false)))):=by
 unfold kU;generalize zI p (i+1)=c;generalize zI p (i+2)=d;simp only[oU,gP,iX,wR];by_cases h:c≠63
 ·rw[lG h];simp;omega
 ·rw[lC h];by_cases j:d=58
  ·rw[lG j];simp;omega
  ·rw[lC j];by_cases G:d=62
   ·rw[lG G];simp;omega
   ·rw[lC G];by_cases I:d=61
    ·rw[lG I];simp;omega
    ·rw[lC I];by_cases J:d=33
     ·rw[lG J];simp;omega
     ·rw[lC J];simp;omega
def vM(p:BA)(i:Int):zU × Bool:=
 if zI p (i+1)<0 then(⟨1,i,i+2,0,0,0,[]⟩,false)
 else if zI p (i+1)=100\/zI p (i+1)=119 then(⟨1,i,i+2,0,0,0,all p i (i+2) false⟩,true)
 else if 49<=zI p (i+1)/\zI p (i+1)<=57 then(⟨2,i,i+2,zI p (i+1)-48,0,0,[]⟩,true)
 else(⟨1,i,i+2,0,0,0,[UInt8.ofNat (zI p (i+1)).toNat]⟩,!bn (zI p (i+1))&&!aX (zI p (i+1)))
theorem BK p i:
  (decide (zI p (i+1)<0)=true/\vM p i=(⟨1,i,i+2,0,0,0,[]⟩,false))\/
  (0<=zI p (i+1)/\decide (zI p (i+1)<0)=false/\
   (
   ((zI p (i+1)==100)=true/\vM p i=(⟨1,i,i+2,0,0,0,all p i (i+2) false⟩,true))\/
   ((zI p (i+1)==100)=false/\(zI p (i+1)==119)=true/\vM p i=(⟨1,i,i+2,0,0,0,all p i (i+2) false⟩,true))\/
   ((zI p (i+1)==100)=false/\(zI p (i+1)==119)=false/\49<=zI p (i+1)/\zI p (i+1)<=57/\decide (49<=zI p (i+1))=true/\decide (zI p (i+1)<=57)=true/\vM p i=(⟨2,i,i+2,zI p (i+1)-48,0,0,[]⟩,true))\/
   ((
    zI p (i+1)==100)=false/\(zI p (i+1)==119)=false/\(decide (49<=zI p (i+1))=false\/decide (49<=zI p (i+1))=true/\decide (zI p (i+1)<=57)=false)/\
    vM p i=(⟨1,i,i+2,0,0,0,[UInt8.ofNat (zI p (i+1)).toNat]⟩,!bn (zI p (i+1))&&!aX (zI p (i+1)))))):=by
 unfold vM;generalize zI p (i+1)=c;simp only[oU,gP,gM,lW];by_cases h:c<0
 ·rw[lG h];simp;omega
 ·rw[lC h];by_cases j:c=100\/c=119
  ·rw[lG j];simp;omega
  ·rw[lC j];by_cases G:49<=c/\c<=57
   ·rw[lG G];simp;omega
   ·rw[lC G];simp;omega
def vY(p:BA)(t:Int):Int × Int:=if zI p t=63 then(1,t+1)else if zI p t=43 then(2,t+1)else(0,t)
def jN(p:BA)(i:Int):zU × Bool:=
 if zI p i=43 then(⟨8,i,(vY p (i+1)).2,1,-1,(vY p (i+1)).1,[]⟩,true)
 else if zI p i=63 then(⟨8,i,(vY p (i+1)).2,0,1,(vY p (i+1)).1,[]⟩,true)
 else if zI p i=123 then
  (if(count p i).2.2.2 then(⟨8,i,(vY p (count p i).2.2.1).2,(count p i).1,(count p i).2.1,(vY p (count p i).2.2.1).1,[]⟩,true)else(⟨8,i,i+1,0,-1,0,[]⟩,false))
 else(⟨8,i,(vY p (i+1)).2,0,-1,(vY p (i+1)).1,[]⟩,true)
def nT(p:BA):Nat->Int->Int
 | 0,_=>-1
 | f+1,b =>
  if(p.size:Int)<=b then -1
  else if zI p b=93 then b
  else if(jS p b).2.2.1=0 then -1
  else nT p f (b+(jS p b).2.2.1)
theorem MO p:∀(f g:Nat) b,(p.size:Int)-b<f->(p.size:Int)-b<g->nT p f b=nT p g b:=by
 intro f;induction f with
 | zero =>
  intro g b G I;cases g with
  | zero=>rfl
  | succ g=>simp only[nT];rw[lG (by omega)]
 | succ f J =>
  intro g b G I;cases g with
  | zero=>simp only[nT];rw[lG (by omega)]
  | succ g =>
   simp only[nT];have O:=qy p b;by_cases h:(jS p b).2.2.1=0
   ·simp[h]
   ·by_cases j:(p.size:Int)<=b
    ·simp[j]
    ·rw[J g (b+(jS p b).2.2.1) (by omega) (by omega)]
def jR(p:BA)(b:Int):Int:=nT p ((p.size:Int)-b+1).toNat b
theorem fE p b:jR p b=
  if(p.size:Int)<=b then -1
  else if zI p b=93 then b
  else if(jS p b).2.2.1=0 then -1
  else jR p (b+(jS p b).2.2.1):=by
 have I:=qy p b;by_cases h:(p.size:Int)<=b
 ·rw[lG h];unfold jR;generalize ((p.size:Int)-b+1).toNat=f;cases f with
  | zero=>rfl
  | succ f=>simp only[nT];rw[lG h]
 ·rw[lC h];by_cases j:zI p b=93
  ·rw[lG j];unfold jR;rw[show((p.size:Int)-b+1).toNat=((p.size:Int)-b).toNat+1 by omega];simp only[nT];rw[lC h,lG j]
  ·rw[lC j];by_cases G:(jS p b).2.2.1=0
   ·rw[lG G];unfold jR;rw[show((p.size:Int)-b+1).toNat=((p.size:Int)-b).toNat+1 by omega];simp only[nT];rw[lC h,lC j,lG G]
   ·rw[lC G];unfold jR;rw[show((p.size:Int)-b+1).toNat=((p.size:Int)-b).toNat+1 by omega];simp only[nT];rw[lC h,lC j,lC G];exact MO _ _ _ _ (by omega) (by omega)
theorem FX p:∀(f:Nat) b,(p.size:Int)-b<f->0<=b->jR p b=-1\/(b<=jR p b/\jR p b<(p.size:Int)):=by
 intro f;induction f with
 | zero=>intro b I J;rw[fE,lG (by omega)];simp
 | succ f O =>
  intro b I J;have U:=qy p b;rw[fE];by_cases h:(p.size:Int)<=b
  ·simp[h]
  ·rw[lC h];by_cases j:zI p b=93
   ·rw[lG j];omega
   ·rw[lC j];by_cases G:(jS p b).2.2.1=0
    ·simp[G]
    ·rw[lC G];have:=O (b+(jS p b).2.2.1) (by omega) (by omega);omega
def xU(p:BA)(i:Int):Int:=if zI p (i+1)=94 then i+2 else i+1
def yI(p:BA)(i:Int):zU × Bool:=
 if jR p (xU p i)=-1\/jR p (xU p i)=xU p i then(⟨0,0,0,0,0,0,[]⟩,false)
 else(⟨1,i,jR p (xU p i)+1,0,0,0,all p (xU p i) (jR p (xU p i)) (decide (zI p (i+1)=94))⟩,true)
def kS(p:BA)(i:Int):zU × Int:=
 if zI p i=124 then(⟨5,i,i+1,0,0,0,[]⟩,0)
 else if zI p i=41 then(⟨7,i,i+1,0,0,0,[]⟩,0)
 else if zI p i=94 then(⟨3,i,i+1,0,0,0,[]⟩,0)
 else if zI p i=36 then(⟨4,i,i+1,0,0,0,[]⟩,0)
 else if zI p i=92 then((vM p i).1,if(vM p i).2 then 0 else 2)
 else if zI p i=91 then((yI p i).1,if(yI p i).2 then 0 else 3)
 else if zI p i=40 then((kU p i).1,if(kU p i).2 then 0 else 5)
 else if zI p i=42\/zI p i=43\/zI p i=63\/zI p i=123 then((jN p i).1,if(jN p i).2 then 0 else 4)
 else if zI p i=46 then(⟨1,i,i+1,0,0,0,all p i i true⟩,0)
 else(⟨1,i,i+1,0,0,0,[UInt8.ofNat (zI p i).toNat]⟩,0)
def zZ:zU:=⟨0,0,0,0,0,0,[]⟩
def jV(t:zU):Int:=if t.kind=6 then 1 else if t.kind=7 then -1 else 0
def kE:List zU->Int
 | []=>0
 | t::r=>jV t+kE r
theorem pO a b:kE (a++b)=kE a+kE b:=by
 induction a with
 | nil=>simp[kE]
 | cons t r h=>simp only[rR,kE,h];omega
theorem Hg(l:List zU) k(h:k<l.length):l.take (k+1)=l.take k++[l.getD k zZ]:=by
 rw[sP h,lH,lN h];rfl
theorem Jb(l:List zU) k(h:k<l.length):kE (l.take (k+1))=kE (l.take k)+jV (l.getD k zZ):=by
 rw[Hg l k h,pO];simp[kE]
theorem ZK t:-1<=jV t/\jV t<=1:=by
 unfold jV;split
 ·omega
 ·split <;> omega
theorem Eh l:-(l.length:Int)<=kE l/\kE l<=l.length:=by
 induction l with
 | nil=>simp[kE]
 | cons t r h=>have:=ZK t;simp only[kE,lU];omega
theorem KD(l:List zU)(k:Nat):-(k)<=kE (l.take k)/\kE (l.take k)<=k:=by
 have:=Eh (l.take k);have h:(l.take k).length<=k:=List.length_take_le _ _;omega
def jD(t:zU):Bool:=decide (t.kind=6/\t.jB=4)
def kD:List zU->Int
 | []=>0
 | t::r=>(if jD t then 1 else 0)+kD r
theorem dn a b:kD (a++b)=kD a+kD b:=by
 induction a with
 | nil=>simp[kD]
 | cons t r h=>simp only[rR,kD,h];omega
theorem ru(l:List zU) k(h:k<l.length):kD (l.take (k+1))=kD (l.take k)+if jD (l.getD k zZ)then 1 else 0:=by
 rw[Hg l k h,dn];simp[kD]
theorem nU l:0<=kD l/\kD l<=l.length:=by
 induction l with
 | nil=>simp[kD]
 | cons t r h=>simp only[kD,lU];split <;> omega
theorem Hl(l:List zU) k:0<=kD (l.take k)/\kD (l.take k)<=k:=by
 have:=nU (l.take k);have h:(l.take k).length<=k:=List.length_take_le _ _;omega
def jI:List zU->Int->Nat->Nat
 | [],_,j=>j
 | t::r,n,j=>if n+jV t=0 then j else jI r (n+jV t) (j+1)
def jO(l:List zU)(i:Nat):Nat:=jI (l.drop i) 0 i
theorem Ei(l:List zU) k(h:k<l.length):l.drop k=l.getD k zZ::l.drop (k+1):=by
 rw[wO h,lH,lN h];rfl
theorem OZ:∀l n h,jI l n h<=h+l.length:=by
 intro l;induction l with
 | nil=>intro n h;simp[jI]
 | cons t r j =>
  intro n h;simp only[jI,lU];split
  ·omega
  ·have:=j (n+jV t) (h+1);omega
theorem Pb:∀l n h,h<=jI l n h:=by
 intro l;induction l with
 | nil=>intro n h;simp[jI]
 | cons t r j =>
  intro n h;simp only[jI];split
  ·omega
  ·have:=j (n+jV t) (h+1);omega
theorem Fa l i(h:i<=l.length):jO l i<=l.length:=by
 have:=OZ (l.drop i) 0 i;rw[wW]at this;unfold jO;omega
theorem pz l i:i<=jO l i:=Pb _ _ _
def pE(l:List zU)(k:Int):List zU->Nat->Bool
 | [],_=>false
 | t::r,j=>if jD t=true/\t.n=k then decide (jO l j<l.length)else pE l k r (j+1)
def closed(l:List zU)(k:Int):Bool:=pE l k l 0
def pV(l:List zU):Bool:=
 match l.getLast? with
 | none=>false
 | some t=>decide (t.kind=1\/t.kind=2\/t.kind=3\/t.kind=4\/t.kind=7)
def may(l:List zU)(t:zU):Int:=
 if t.kind=2 then(if closed l t.n then 0 else 6)
 else if t.kind=8 then(if pV l then 0 else 7)
 else if t.kind=6 then(if 10<=kE l then 8 else if t.jB=4/\9<=kD l then 9 else 0)
 else if t.kind=7 then(if kE l=0 then 10 else 0)
 else 0
def yU(l:List zU)(t:zU):zU:=if jD t then { t with n:=kD l+1 } else t
def nV(p:BA):Nat->List zU->Int->List zU × Int × Int
 | 0,l,i=>(l,0,i)
 | f+1,l,i =>
  if(p.size:Int)<=i then(l,0,i)
  else if(kS p i).2≠0 then([],(kS p i).2,i)
  else if may l (kS p i).1≠0 then([],may l (kS p i).1,i)
  else nV p f (l++[yU l (kS p i).1]) (kS p i).1.to
def zP(p:BA):List zU × Int × Int:=
 if 64<p.size then([],1,0)
 else if(nV p 65 [] 0).2.1≠0 then nV p 65 [] 0
 else if 0<kE (nV p 65 [] 0).1 then([],11,p.size)
 else((nV p 65 [] 0).1,0,0)
theorem KE(l:List zU) n k(h:k<l.length):jI (l.drop k) n k=if n+jV (l.getD k zZ)=0 then k else jI (l.drop (k+1)) (n+jV (l.getD k zZ)) (k+1):=by
 rw[Ei l k h];rfl
theorem CW l c k(h:k<l.length):pE l c (l.drop k) k=if jD (l.getD k zZ)=true/\(l.getD k zZ).n=c then decide (jO l k<l.length)else pE l c (l.drop (k+1)) (k+1):=by
 rw[Ei l k h];rfl
theorem ZM(p)(i)(Y:0<=i)(h:(count p i).2.2.2=true):i<(count p i).2.2.1/\(count p i).2.2.1<=p.size:=by
 have U:=cK p (i+1);have W:=cK p (i+1+(number p (i+1)).2+1);unfold count at h |-;split at h
 ·simp at h
 ·rename_i G
  split at h
  ·rename_i j
   rw[lC G,lG j];have:=uR p (i+1+(number p (i+1)).2) (by omega);simp only;omega
  ·rename_i j
   split at h
   ·simp at h
   ·rename_i J
    split at h
    ·rename_i I
     rw[lC G,lC j,lC J,lG I];have:=uR p (i+1+(number p (i+1)).2+1) (by omega);simp only;omega
    ·rename_i I
     split at h
     ·simp at h
     ·rename_i O
      rw[lC G,lC j,lC J,lC I,lC O];have:=uR p (i+1+(number p (i+1)).2+1+(number p (i+1+(number p (i+1)).2+1)).2) (by omega);simp only;omega
theorem Wn p(t:Int)(j:0<=t)(h:t<=p.size):t<=(vY p t).2/\(vY p t).2<=p.size:=by
 unfold vY;split
 ·have:=uR p t (by omega);simp only;omega
 ·split
  ·have:=uR p t (by omega);simp only;omega
  ·simp only;omega
theorem Xc(p)(i:Int)(j:0<=i)(G:i<p.size)(h:(jN p i).2=true):i<(jN p i).1.to/\(jN p i).1.to<=p.size:=by
 have I:=Wn p (i+1) (by omega) (by omega);unfold jN at h |-;split
 ·simp only;omega
 ·split
  ·simp only;omega
  ·split
   ·rename_i a b c
    rw[lC a,lC b,lG c]at h;split at h
    ·rename_i d
     have k:=ZM p i j d;have J:=Wn p (count p i).2.2.1 (by omega) (by omega);rw[lG d];simp only;omega
    ·simp at h
   ·simp only;omega
theorem Ub(p)(i:Int)(U:0<=i)(W:i<p.size)(J:(kU p i).2=true):i<(kU p i).1.to/\(kU p i).1.to<=p.size:=by
 rcases qz p i with ⟨O,e⟩ | ⟨O,⟨h,e⟩ | ⟨h,j,e⟩ | ⟨h,j,G,e⟩ | ⟨h,j,G,I,e⟩ | ⟨h,j,G,I,e⟩⟩
 ·rw[e];simp only;omega
 ·rw[e];have:=uR p (i+2) (by rw[eq_of_beq h];omega);simp only;omega
 ·rw[e];have:=uR p (i+2) (by rw[eq_of_beq j];omega);simp only;omega
 ·rw[e];have:=uR p (i+2) (by rw[eq_of_beq G];omega);simp only;omega
 ·rw[e];have:=uR p (i+2) (by rw[eq_of_beq I];omega);simp only;omega
 ·rw[e]at J;simp at J
theorem Xd(p)(i:Int)(Z:0<=i)(a0:i<p.size)(G:(vM p i).2=true):i<(vM p i).1.to/\(vM p i).1.to<=p.size:=by
 rcases BK p i with ⟨J,e⟩ | ⟨I,J,⟨h,e⟩ | ⟨h,j,e⟩ | ⟨h,j,O,U,W,Y,e⟩ | ⟨h,j,O,e⟩⟩
 ·rw[e]at G;simp at G
 all_goals
  rw[e];have:=uR p (i+1) I;simp only;omega
theorem ZN(p)(i:Int)(j:0<=i)(G:i<p.size)(h:(yI p i).2=true):i<(yI p i).1.to/\(yI p i).1.to<=p.size:=by
 have I:i+1<=xU p i:=by unfold xU;split <;> omega
 have J:=FX p ((p.size:Int)-xU p i+1).toNat (xU p i) (by omega) (by omega);unfold yI at h |-;split at h
 ·simp at h
 ·rename_i g
  rw[lC g];simp only;omega
theorem tq(p)(i:Int)(j:0<=i)(G:i<p.size)(h:(kS p i).2=0):i<(kS p i).1.to/\(kS p i).1.to<=p.size:=by
 unfold kS at h |-;split
 ·simp only;omega
 split
 ·simp only;omega
 split
 ·simp only;omega
 split
 ·simp only;omega
 split
 ·rename_i a b c d e
  rw[lC a,lC b,lC c,lC d,lG e]at h;exact Xd p i j G (by cases x:(vM p i).2 <;> simp[x]at h |-)
 split
 ·rename_i a b c d e f
  rw[lC a,lC b,lC c,lC d,lC e,lG f]at h;exact ZN p i j G (by cases x:(yI p i).2 <;> simp[x]at h |-)
 split
 ·rename_i a b c d e f g
  rw[lC a,lC b,lC c,lC d,lC e,lC f,lG g]at h;exact Ub p i j G (by cases x:(kU p i).2 <;> simp[x]at h |-)
 split
 ·rename_i a b c d e f g k
  rw[lC a,lC b,lC c,lC d,lC e,lC f,lC g,lG k]at h;exact Xc p i j G (by cases x:(jN p i).2 <;> simp[x]at h |-)
 split
 ·simp only;omega
 ·simp only;omega
def vP(p:BA)(l:List zU)(i:Int):List zU × Int × Int:=nV p ((p.size:Int)-i+1).toNat l i
theorem EN p:∀(f g:Nat) l i,0<=i->(p.size:Int)-i<f->(p.size:Int)-i<g->i<=p.size->nV p f l i=nV p g l i:=by
 intro f;induction f with
 | zero =>
  intro g l i G I J O;omega
 | succ f U =>
  intro g l i G I J O;cases g with
  | zero=>omega
  | succ g =>
   simp only[nV];by_cases h:(p.size:Int)<=i
   ·rw[lG h,lG h]
   ·rw[lC h,lC h];by_cases j:(kS p i).2≠0
    ·rw[lG j,lG j]
    ·rw[lC j,lC j];have:=tq p i G (by omega) (by omega);split
     ·rfl
     ·exact U g _ _ (by omega) (by omega) (by omega) (by omega)
theorem dW p l(i:Int)(G:0<=i)(I:i<=p.size):vP p l i=
  if(p.size:Int)<=i then(l,0,i)
  else if(kS p i).2≠0 then([],(kS p i).2,i)
  else if may l (kS p i).1≠0 then([],may l (kS p i).1,i)
  else vP p (l++[yU l (kS p i).1]) (kS p i).1.to:=by
 unfold vP;rw[show((p.size:Int)-i+1).toNat=((p.size:Int)-i).toNat+1 by omega];simp only[nV];by_cases h:(p.size:Int)<=i
 ·rw[lG h,lG h]
 ·rw[lC h,lC h];by_cases j:(kS p i).2≠0
  ·rw[lG j,lG j]
  ·rw[lC j,lC j];have:=tq p i G (by omega) (by omega);split
   ·rfl
   ·exact EN p _ _ _ _ (by omega) (by omega) (by omega) (by omega)
theorem dP p(h:p.size<=64):nV p 65 [] 0=vP p [] 0:=EN p _ _ _ _ (by omega) (by omega) (by omega) (by omega)
abbrev bP:=Nat->Bool
def none0:bP:=λ_=>false
def mR(S:bP)(a b:Int):bP:=λc=>S c||(decide (a<=(c:Int))&&decide ((c:Int)<=b))
def zh(S:bP)(a b:Int)(k:Nat):bP:=λc=>if c<k then mR S a b c else S c
theorem Uc S a b:zh S a b 0=S:=by funext c;simp[zh]
theorem Xe S a b(k:Nat)(h:a<=(k:Int)/\(k:Int)<=b):zh S a b (k+1)=λc=>if c=k then true else zh S a b k c:=by
 funext c
 simp only[zh,mR];by_cases e:c=k
 ·subst e;simp[h]
 ·rw[lC e];by_cases l:c<k
  ·rw[lG (by omega),lG l]
  ·rw[lC (by omega),lC l]
theorem KG S a b(k:Nat)(h:¬(a<=(k:Int)/\(k:Int)<=b)):zh S a b (k+1)=zh S a b k:=by
 funext c
 simp only[zh,mR];by_cases e:c=k
 ·subst e;rw[lG (by omega),lC (by omega)]
  have:(decide (a<=(c:Int))&&decide ((c:Int)<=b))=false:=by
   rw[<-eX];simpa using h
  rw[this];simp
 ·by_cases l:c<k
  ·rw[lG (by omega),lG l]
  ·rw[lC (by omega),lC l]
def ZO(S T:bP):Prop:=∀c,c<256->S c=T c
theorem Xf S a b:ZO (zh S a b 256) (mR S a b):=λc h=>by simp[zh,h]
def Dc(S:bP)(k:Nat):bP:=λc=>if c<k then !S c else S c
theorem Ud S k:Dc S (k+1)=λc=>if c=k then !(S k)else Dc S k c:=by
 funext c
 simp only[Dc];by_cases e:c=k
 ·subst e;simp
 ·rw[lC e];by_cases l:c<k
  ·rw[lG (by omega),lG l]
  ·rw[lC (by omega),lC l]
def yZ(S:bP)(n:Nat):List UInt8:=((List.range n).filter S).map UInt8.ofNat
theorem Xg{S n}(h:S n=true):yZ S (n+1)=yZ S n++[UInt8.ofNat n]:=by
 unfold yZ;rw[rE,wI,rW];congr 1;rw[wG,lG h];rfl
theorem Ue{S n}(h:S n=false):yZ S (n+1)=yZ S n:=by
 unfold yZ;rw[rE,wI,rW,wG,lC (by simp[h])];simp
theorem Xh S n:(yZ S n).length<=n:=by
 unfold yZ;rw[uD];exact gX (iF _ _) (by simp)
theorem zi{S T}(h:ZO S T):yZ S 256=yZ T 256:=by
 unfold yZ;congr 1;apply List.filter_congr;intro c j;exact h c (by simpa using j)
theorem Ej p a b no:yZ (λc=>yF p a b (c) != no) 256=all p a b no:=rfl
theorem filter_one c:∀n,(List.range n).filter (λk:Nat=>decide (k=c))=if c<n then[c]else[]
 | 0=>by simp
 | n+1=>by
  rw[rE,wI,filter_one c n];by_cases e:n=c
  ·subst e;simp
  ·by_cases l:c<n
   ·rw[lG l,lG (by omega)];simp[e]
   ·rw[lC l,lC (by omega)];simp[e]
theorem Wo c(j:0<=c)(G:c<=255):yZ (mR none0 c c) 256=[UInt8.ofNat c.toNat]:=by
 have:yZ (mR none0 c c) 256=yZ (λk=>decide (k=c.toNat)) 256:=by
  refine zi (λk I=>?_);simp only[mR,none0,Bool.false_or];rw[<-eX];congr 1;exact propext ⟨λh=>by omega,λh=>by omega⟩
 rw[this];unfold yZ;rw[filter_one,lG (by omega)];rfl
theorem AB p i c:yF p i i c=false:=by rw[pK,lG (oL _)]
theorem zCz p i:yZ (mR none0 0 255) 256=all p i i true:=by
 rw[<-Ej];refine zi (λk h=>?_);rw[AB];simp[mR,none0];omega
def JO(S:bP)(w:Bool):bP:=if w then mR (mR (mR (mR S 48 57) 65 90) 95 95) 97 122 else mR S 48 57
theorem KH S w c:JO S w c=(S c||zf w (c)):=by
 unfold JO zf bn aX;cases w
 ·simp[mR]
 ·simp only[mR,wS,Bool.true_and];by_cases h:48<=(c:Int)/\(c:Int)<=57 <;> by_cases j:65<=(c:Int)/\(c:Int)<=90 <;> by_cases G:97<=(c:Int)/\(c:Int)<=122 <;> by_cases I:(c:Int)=95
  all_goals
   simp only[<-eX];have J:(95<=(c:Int)/\(c:Int)<=95)↔(c:Int)=95:=by omega
   simp only[J,h,j,G,I];simp
def Pd(p:BA)(i:Int)(S:bP):bP:=
 if(jS p i).2.2.2 then JO S (decide ((jS p i).2.1=119))else mR S (jS p i).1 (jS p i).2.1
theorem zCA(p)(i b)(S)(c:Nat)(G:i<b)(j:(jS p i).2.2.1≠0):(S c||yF p i b (c))=(Pd p i S c||yF p (i+(jS p i).2.2.1) b (c)):=by
 rw[pK,lC (by omega),lC j];unfold Pd;cases J:(jS p i).2.2.2
 ·simp only[sH,wX];by_cases h:(jS p i).1<=(c:Int)/\(c:Int)<=(jS p i).2.1
  ·rw[lG h];simp[mR,h]
  ·rw[lC h];have:(decide ((jS p i).1<=(c:Int))&&decide ((c:Int)<=(jS p i).2.1))=false:=by rw[<-eX];simpa using h
   simp only[mR,this,aL]
 ·simp only[wS];rw[KH];cases I:zf (decide ((jS p i).2.1=119)) (c:Int) <;> simp
structure PT where
 kind:Int
 en:Int
 group:Int
 number:Int
 least:Int
 most:Int
 vY:Int
 set:List UInt8
def mJ:PT:=⟨0,0,0,0,0,0,0,[]⟩
def Nt(k:Int):Int:=if k=1 then 5 else if k=2 then 6 else if k=3 then 7 else if k=4 then 8 else if k=5 then 1 else if k=6 then 2 else if k=7 then 3 else if k=8 then 4 else 0
def Ri(h:Int):Int:=if h=4 then 1 else if h=3 then 2 else h+3
def jQ(t:zU):PT:=
 ⟨Nt t.kind,t.to,if t.kind=6 then Ri t.jB else 0,if t.kind=2 then t.n else 0,if t.kind=8 then t.n else 0,if t.kind=8 then t.m else 0,if t.kind=8 then t.jB+1 else 0,t.set⟩
def dX(p:BA)(i:Int):PT × Int:=if(kS p i).2=0 then(jQ (kS p i).1,0)else(mJ,(kS p i).2)
structure zT where
 op:Int
 x:Int
 y:Int
 set:List UInt8
def kC:zT:=⟨0,0,0,[]⟩
def cO(i:zT)(by':Int):zT:=
 if i.op=2 then⟨i.op,i.x+by',i.y+by',i.set⟩
 else if i.op=3\/i.op=5 then⟨i.op,i.x+by',i.y,i.set⟩
 else if i.op=11 then⟨i.op,i.x,i.y+by',i.set⟩
 else i
def vZ(c:List zT)(by':Int):List zT:=c.map λi=>cO i by'
theorem vJ c n:(vZ c n).length=c.length:=by simp[vZ]
def kF(a b:List zT):List zT:=if 300<a.length then a else a++vZ b a.length
def vI(x y:Int)(late:Bool):List zT:=if late then[⟨2,y,x,[]⟩]else[⟨2,x,y,[]⟩]
def Ho(M:Int)(i:zT):Prop:=-M<=i.x/\i.x<=M/\-M<=i.y/\i.y<=M
def fit(M:Int)(c:List zT):Prop:=(c.length:Int)<=M/\∀i∈c,Ho M i
theorem yh{M N i}(h:Ho M i)(j:M<=N):Ho N i:=by unfold Ho at *;omega
theorem kX{M N c}(h:fit M c)(G:M<=N):fit N c:=⟨by have:=h.1;omega,λi j=>yh (h.2 i j) G⟩
theorem dw{M i}(j:Ho M i)(G:1<=M):fit M [i]:=⟨by simpa using G,λI h=>by simp at h;rw[h];exact j⟩
theorem El{M}(h:0<=M):fit M []:=⟨by simpa using h,λG j=>by simp at j⟩
theorem Fb{M n i}(h:Ho M i)(j:0<=n)(G:n<=300):Ho (M+300) (cO i n):=by
 unfold Ho at *;unfold cO;split
 ·simp only;omega
 ·split
  ·simp only;omega
  ·split
   ·simp only;omega
   ·omega
theorem bQ{M a b}(G:fit M a)(I:fit M b):fit (M+300) (kF a b):=by
 unfold kF;by_cases j:300<a.length
 ·rw[lG j];exact kX G (by omega)
 ·rw[lC j];refine⟨?_,λi h=>?_⟩
  ·rw[lQ,vJ];have:=I.1;omega
  ·rcases gV.1 h with h | h
   ·exact yh (G.2 i h) (by omega)
   ·unfold vZ at h;obtain⟨O,J,rfl⟩:=uY.1 h;exact Fb (I.2 O J) (by omega) (by omega)
def jX(l:List zU)(k:Nat):Int:=(l.getD k zZ).kind
def wz(l:List zU)(b:Nat):Nat->Nat->Nat
 | 0,_=>b
 | f+1,i =>
  if b<=i then b
  else if jX l i=5 then i
  else if jX l i=6 then wz l b f (jO l i+1)
  else wz l b f (i+1)
theorem FY l b:∀f g i,b-i<=f->b-i<=g->wz l b f i=wz l b g i:=by
 intro f;induction f with
 | zero =>
  intro g i G I;cases g with
  | zero=>rfl
  | succ g=>simp only[wz];rw[lG (by omega)]
 | succ f j =>
  intro g i G I;cases g with
  | zero=>simp only[wz];rw[lG (by omega)]
  | succ g =>
   simp only[wz];by_cases h:b<=i
   ·rw[lG h,lG h]
   ·rw[lC h,lC h];have J:=pz l i;rw[j g (jO l i+1) (by omega) (by omega),j g (i+1) (by omega) (by omega)]
def bar(l:List zU)(a b:Nat):Nat:=wz l b (b-a) a
theorem cZ l i b:bar l i b=
  if b<=i then b else if jX l i=5 then i else if jX l i=6 then bar l (jO l i+1) b else bar l (i+1) b:=by
 have j:=pz l i;by_cases h:b<=i
 ·rw[lG h];unfold bar;rw[show b-i=0 by omega];rfl
 ·rw[lC h];unfold bar;rw[show b-i=(b-i-1)+1 by omega];simp only[wz];rw[lC h];rw[FY l b (b-i-1) (b-(jO l i+1)) (jO l i+1) (by omega) (by omega),FY l b (b-i-1) (b-(i+1)) (i+1) (by omega) (by omega)]
theorem ZP l b:∀f i,b-i<=f->bar l i b<=b:=by
 intro f;induction f with
 | zero=>intro i G;rw[cZ,lG (by omega)];omega
 | succ f j =>
  intro i G;have I:=pz l i;rw[cZ];by_cases h:b<=i
  ·rw[lG h];omega
  ·rw[lC h];split
   ·omega
   ·split
    ·exact j _ (by omega)
    ·exact j _ (by omega)
theorem ZQ l b:∀f i,b-i<=f->bar l i b=b\/(i<=bar l i b/\bar l i b<b):=by
 intro f;induction f with
 | zero=>intro i G;rw[cZ,lG (by omega)];simp
 | succ f j =>
  intro i G;have I:=pz l i;rw[cZ];by_cases h:b<=i
  ·rw[lG h];simp
  ·rw[lC h];split
   ·omega
   ·split
    ·have:=j (jO l i+1) (by omega);omega
    ·have:=j (i+1) (by omega);omega
def after(l:List zU)(i:Nat):Nat:=if jX l i=6 then jO l i+1 else i+1
theorem Rj l i:i<after l i:=by unfold after;have:=pz l i;split <;> omega
theorem Rk l i(h:i<l.length):after l i<=l.length+1:=by unfold after;have:=Fa l i (by omega);split <;> omega
def alone(sort:Int)(c:List zT):List zT:=kF (kF [⟨11,sort,c.length+2,[]⟩] c) [⟨12,0,0,[]⟩]
def CX(y:List zT)(d:Int)(late:Bool):List zT:=kF (kF (kF (vI 1 (y.length+3) late) [⟨4,d,0,[]⟩]) y) [⟨5,-y.length-2,d,[]⟩]
def mD(x:List zT)(late:Bool):Nat->List zT->List zT
 | 0,c=>c
 | n+1,c=>mD x late n (kF c (kF (vI 1 (((n:Int)+1)*(x.length+1)) late) x))
def upTo(x:List zT)(k:Nat)(late:Bool):List zT:=mD x late k []
def qN(x:List zT):Nat->List zT->List zT
 | 0,c=>c
 | n+1,c=>qN x n (kF c x)
def dQ(at' rp:Nat->Nat->List zT)(l:List zU)(b:Nat):Nat->Nat->List zT->List zT
 | 0,_,c=>c
 | f+1,i,c =>
  if b<=i then c
  else if after l i<b/\jX l (after l i)=8 then dQ at' rp l b f (after l i+1) (kF c (rp i (after l i)))
  else dQ at' rp l b f (after l i) (kF c (at' i (after l i)))
def Df(n:Int):List zT:=[⟨3,n,0,[]⟩]
def gen(l:List zU):Nat->Nat->Nat->Nat->Int->List zT
 | 0,_,_,_,_=>[]
 | f+1,0,a,b,d =>
  if bar l a b=b then gen l f 1 a (bar l a b) d
  else kF (kF (kF (vI 1 ((gen l f 1 a (bar l a b) d).length+2) false) (gen l f 1 a (bar l a b) d)) (Df (1+(gen l f 0 (bar l a b+1) b d).length))) (gen l f 0 (bar l a b+1) b d)
 | f+1,1,a,b,d=>dQ (λi j=>gen l f 2 i j d) (λi j=>gen l f 3 i j d) l b (b-a) a []
 | f+1,2,a,b,d =>
  if jX l a=1 then[⟨1,0,0,(l.getD a zZ).set⟩]
  else if jX l a=2 then[⟨8,(l.getD a zZ).n,0,[]⟩]
  else if jX l a=3 then[⟨9,0,0,[]⟩]
  else if jX l a=4 then[⟨10,0,0,[]⟩]
  else if(l.getD a zZ).jB=3 then gen l f 0 (a+1) (b-1) d
  else if(l.getD a zZ).jB=4 then kF (kF [⟨6,(l.getD a zZ).n,0,[]⟩] (gen l f 0 (a+1) (b-1) d)) [⟨7,(l.getD a zZ).n,0,[]⟩]
  else alone (l.getD a zZ).jB (gen l f 0 (a+1) (b-1) d)
 | f+1,_+3,a,b,d =>
  let r:=l.getD b zZ
  let c1:=if 0<r.n\/0<r.m then
    (if r.n<r.m then kF (qN (gen l f 2 a b d) r.n.toNat []) (upTo (gen l f 2 a b d) (r.m-r.n).toNat (decide (r.jB=1)))else qN (gen l f 2 a b d) r.n.toNat [])
   else[]
  let c2:=if r.m<0 then kF c1 (CX (gen l f 2 a b (d+1)) d (decide (r.jB=1)))else c1
  if r.jB=2 then alone 0 c2 else c2
def coded(l:List zU):List zT:=kF (gen l 283 0 0 l.length 0) [⟨13,0,0,[]⟩]
