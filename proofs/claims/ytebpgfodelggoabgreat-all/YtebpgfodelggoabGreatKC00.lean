import Derived.Test.YtebpgfodelggoabGreatKA
import Derived.Below
set_option linter.unusedVariables false
set_option linter.unusedSimpArgs false
namespace Mt
def zTC(p:ByteArray)(i:Int):Int:=if i<0\/(p.size:Int)<=i then -1 else((p.data.toList.getD i.toNat 0).toNat:Int)
theorem zGc(p:ByteArray)(i:Int):-1<=zTC p i:=by unfold zTC;split <;> omega
theorem zCs(p:ByteArray)(i:Int):zTC p i<=255:=by
 unfold zTC;split
 ·omega
 ·have:=(p.data.toList.getD i.toNat 0).toNat_lt;omega
theorem zDc(p:ByteArray)(i:Int)(h:i<0\/(p.size:Int)<=i):zTC p i=-1:=by unfold zTC;rw[if_pos h]
theorem zOD(p:ByteArray)(i:Int)(h0:0<=i)(h:i<(p.size:Int)):zTC p i=((p.data.toList.getD i.toNat 0).toNat:Int):=by
 unfold zTC;rw[if_neg (by omega)]
theorem zAn(p:ByteArray)(i:Int)(h:0<=zTC p i):0<=i/\i<(p.size:Int):=by
 unfold zTC at h;split at h <;> omega
def zBa(c:Int):Bool:=decide (48<=c/\c<=57)
def zA6(c:Int):Bool:=decide ((97<=c/\c<=122)\/(65<=c/\c<=90))
def zJ(p:ByteArray)(i:Int):Int × Int :=
 if zTC p i<0\/zTC p i=93\/zTC p i=45 then(0,0)
 else if zTC p i≠92 then(zTC p i,1)
 else if zTC p (i+1)<0\/zBa (zTC p (i+1))=true\/zA6 (zTC p (i+1))=true then(0,0)
 else(zTC p (i+1),2)
theorem zDd(p:ByteArray)(i:Int) :
  (decide (zTC p i<0)=true/\zJ p i=(0,0)) \/
  (0<=zTC p i/\decide (zTC p i<0)=false /\
   (
   ((zTC p i==93)=true/\zJ p i=(0,0)) \/
   ((zTC p i==93)=false/\(zTC p i==45)=true/\zJ p i=(0,0)) \/
   ((zTC p i==93)=false/\(zTC p i==45)=false/\(zTC p i != 92)=true/\zJ p i=(zTC p i,1)) \/
   ((zTC p i==93)=false/\(zTC p i==45)=false/\(zTC p i != 92)=false/\decide (zTC p (i+1)<0)=true/\zJ p i=(0,0)) \/
   ((zTC p i==93)=false/\(zTC p i==45)=false/\(zTC p i != 92)=false/\0<=zTC p (i+1)/\decide (zTC p (i+1)<0)=false/\zBa (zTC p (i+1))=true/\zJ p i=(0,0)) \/
   ((zTC p i==93)=false/\(zTC p i==45)=false/\(zTC p i != 92)=false/\0<=zTC p (i+1)/\decide (zTC p (i+1)<0)=false/\zBa (zTC p (i+1))=false/\zA6 (zTC p (i+1))=true/\zJ p i=(0,0)) \/
   ((zTC p i==93)=false/\(zTC p i==45)=false/\(zTC p i != 92)=false/\0<=zTC p (i+1)/\decide (zTC p (i+1)<0)=false/\zBa (zTC p (i+1))=false/\zA6 (zTC p (i+1))=false/\zJ p i=(zTC p (i+1),2)))):=by
 unfold zJ;generalize zTC p i=c;generalize zTC p (i+1)=d;simp only[decide_eq_true_eq,lJ,beq_iff_eq,beq_eq_false_iff_ne,bne_iff_ne,bne_eq_false_iff_eq];by_cases h1:c<0\/c=93\/c=45
 ·rw[if_pos h1];simp;omega
 ·rw[if_neg h1];by_cases h2:c≠92
  ·rw[if_pos h2];simp;omega
  ·rw[if_neg h2];cases h3:zBa d <;> cases h4:zA6 d <;> simp <;> by_cases h5:d<0 <;> simp[h5] <;> omega
theorem dJ(p:ByteArray)(i:Int):0<=(zJ p i).1/\(zJ p i).1<=255/\0<=(zJ p i).2/\(zJ p i).2<=2:=by
 have l1:=zCs p i;have l2:=zCs p (i+1);unfold zJ;split
 ·simp
 ·split
  ·simp only;omega
  ·split
   ·simp
   ·simp only;omega
def zAs(w:Bool)(c:Int):Bool:=zBa c||(w&&(zA6 c||decide (c=95)))
def yB(p:ByteArray)(i:Int):Int × Int × Int × Bool :=
 if zTC p i=92/\(zTC p (i+1)=100\/zTC p (i+1)=119)then(92,zTC p (i+1),2,true)
 else if(zJ p i).2=0 then(0,0,0,false)
 else if zTC p (i+(zJ p i).2)≠45 then((zJ p i).1,(zJ p i).1,(zJ p i).2,false)
 else if(zJ p (i+(zJ p i).2+1)).2=0\/(zJ p (i+(zJ p i).2+1)).1<(zJ p i).1 then(0,0,0,false)
 else((zJ p i).1,(zJ p (i+(zJ p i).2+1)).1,(zJ p i).2+1+(zJ p (i+(zJ p i).2+1)).2,false)
theorem zJt(p:ByteArray)(i:Int) :
  ((zTC p i==92)=true/\(zTC p (i+1)==100)=true/\0<=zTC p (i+1)/\yB p i=(92,zTC p (i+1),2,true)) \/
  ((zTC p i==92)=true/\(zTC p (i+1)==100)=false/\(zTC p (i+1)==119)=true/\0<=zTC p (i+1)/\yB p i=(92,zTC p (i+1),2,true)) \/
  ((
   (zTC p i==92)=false\/(zTC p i==92)=true/\(zTC p (i+1)==100)=false/\(zTC p (i+1)==119)=false) /\
   (
   (((zJ p i).2==0)=true/\yB p i=(0,0,0,false)) \/
   (((zJ p i).2==0)=false/\(zTC p (i+(zJ p i).2) != 45)=true/\yB p i=((zJ p i).1,(zJ p i).1,(zJ p i).2,false)) \/
   (((zJ p i).2==0)=false/\(zTC p (i+(zJ p i).2) != 45)=false/\((zJ p (i+(zJ p i).2+1)).2==0)=true/\yB p i=(0,0,0,false)) \/
   (((zJ p i).2==0)=false/\(zTC p (i+(zJ p i).2) != 45)=false/\((zJ p (i+(zJ p i).2+1)).2==0)=false/\decide ((zJ p (i+(zJ p i).2+1)).1<(zJ p i).1)=true/\yB p i=(0,0,0,false)) \/
   ((
    (zJ p i).2==0)=false/\(zTC p (i+(zJ p i).2) != 45)=false/\((zJ p (i+(zJ p i).2+1)).2==0)=false/\decide ((zJ p (i+(zJ p i).2+1)).1<(zJ p i).1)=false /\
    yB p i=((zJ p i).1,(zJ p (i+(zJ p i).2+1)).1,(zJ p i).2+1+(zJ p (i+(zJ p i).2+1)).2,false)))):=by
 unfold yB;generalize zJ p (i+(zJ p i).2+1)=y;generalize zTC p (i+(zJ p i).2)=z;generalize zJ p i=x;generalize zTC p i=c;generalize zTC p (i+1)=d;simp only[decide_eq_true_eq,lJ,beq_iff_eq,beq_eq_false_iff_ne,bne_iff_ne,bne_eq_false_iff_eq];by_cases h1:c=92/\(d=100\/d=119)
 ·rw[if_pos h1];rcases h1 with ⟨rfl,rfl | rfl⟩ <;> simp
 ·rw[if_neg h1];right;right;refine⟨by omega,?_⟩;by_cases h2:x.2=0
  ·rw[if_pos h2];simp[h2]
  ·rw[if_neg h2];by_cases h3:z≠45
   ·rw[if_pos h3];simp;omega
   ·rw[if_neg h3];by_cases h4:y.2=0\/y.1<x.1
    ·rw[if_pos h4];simp;omega
    ·rw[if_neg h4];simp;omega
theorem tO(p:ByteArray)(i:Int):0<=(yB p i).1/\(yB p i).1<=255/\0<=(yB p i).2.1/\(yB p i).2.1<=255/\0<=(yB p i).2.2.1/\(yB p i).2.2.1<=5:=by
 have b1:=dJ p i;have b2:=dJ p (i+(zJ p i).2+1);unfold yB;split
 ·simp only;omega
 ·split
  ·simp
  ·split
   ·simp only;omega
   ·split
    ·simp
    ·simp only;omega
def inC(p:ByteArray)(b c:Int):Nat->Int->Bool
 | 0,_=>false
 | f+1,i =>
  if b<=i then false
  else if(yB p i).2.2.1=0 then false
  else if(yB p i).2.2.2 then(if zAs (decide ((yB p i).2.1=119)) c then true else inC p b c f (i+(yB p i).2.2.1))
  else if(yB p i).1<=c/\c<=(yB p i).2.1 then true
  else inC p b c f (i+(yB p i).2.2.1)
theorem zM2(p:ByteArray)(b c:Int):∀(f g:Nat) (i:Int),b-i<=f->b-i<=g->inC p b c f i=inC p b c g i:=by
 intro f;induction f with
 | zero =>
  intro g i hf hg;cases g with
  | zero=>rfl
  | succ g=>simp only[inC];rw[if_pos (by omega)]
 | succ f ih =>
  intro g i hf hg;cases g with
  | zero=>simp only[inC];rw[if_pos (by omega)]
  | succ g =>
   simp only[inC];have hb:=tO p i;by_cases h0:(yB p i).2.2.1=0
   ·simp[h0]
   ·rw[ih g (i+(yB p i).2.2.1) (by omega) (by omega)]
def jM(p:ByteArray)(a b c:Int):Bool:=inC p b c (b-a).toNat a
theorem vQ(p:ByteArray)(i b c:Int):jM p i b c =
  if b<=i then false
  else if(yB p i).2.2.1=0 then false
  else if(yB p i).2.2.2 then(if zAs (decide ((yB p i).2.1=119)) c then true else jM p (i+(yB p i).2.2.1) b c)
  else if(yB p i).1<=c/\c<=(yB p i).2.1 then true
  else jM p (i+(yB p i).2.2.1) b c:=by
 have hb:=tO p i;by_cases h:b<=i
 ·rw[if_pos h];unfold jM;rw[show(b-i).toNat=0 by omega];rfl
 ·rw[if_neg h];by_cases h0:(yB p i).2.2.1=0
  ·rw[if_pos h0];unfold jM;rw[show(b-i).toNat=(b-i).toNat-1+1 by omega];simp only[inC];rw[if_neg h,if_pos h0]
  ·rw[if_neg h0];have e:inC p b c ((b-i).toNat-1) (i+(yB p i).2.2.1)=jM p (i+(yB p i).2.2.1) b c:=zM2 _ _ _ _ _ _ (by omega) (by omega);rw[<-e];unfold jM;rw[show(b-i).toNat=(b-i).toNat-1+1 by omega];simp only[inC];rw[if_neg h,if_neg h0];rfl
def nE(p:ByteArray)(a b:Int)(no:Bool)(n:Nat):List UInt8:=((List.range n).filter λc:Nat=>jM p a b (c:Int) != no).map UInt8.ofNat
def all(p:ByteArray)(a b:Int)(no:Bool):List UInt8:=nE p a b no 256
def number(p:ByteArray)(i:Int):Int × Int :=
 if zTC p i<48\/57<zTC p i then(0,0)
 else if zTC p (i+1)<48\/57<zTC p (i+1)then(zTC p i-48,1)
 else(10*(zTC p i-48)+zTC p (i+1)-48,2)
theorem zGd(p:ByteArray)(i:Int) :
  (decide (zTC p i<48)=true/\number p i=(0,0))\/(decide (zTC p i<48)=false/\decide (57<zTC p i)=true/\number p i=(0,0)) \/
  (48<=zTC p i/\zTC p i<=57/\decide (zTC p i<48)=false/\decide (57<zTC p i)=false /\
   (
   (decide (zTC p (i+1)<48)=true/\number p i=(zTC p i-48,1)) \/
   (decide (zTC p (i+1)<48)=false/\decide (57<zTC p (i+1))=true/\number p i=(zTC p i-48,1)) \/
   (48<=zTC p (i+1)/\zTC p (i+1)<=57/\decide (zTC p (i+1)<48)=false/\decide (57<zTC p (i+1))=false/\number p i=(10*(zTC p i-48)+zTC p (i+1)-48,2)))):=by
 unfold number;generalize zTC p i=c;generalize zTC p (i+1)=d;simp only[decide_eq_true_eq,lJ];by_cases h1:c<48\/57<c
 ·rw[if_pos h1];simp;omega
 ·rw[if_neg h1];by_cases h2:d<48\/57<d
  ·rw[if_pos h2];simp;omega
  ·rw[if_neg h2];simp;omega
theorem dK(p:ByteArray)(i:Int):0<=(number p i).1/\(number p i).1<=99/\0<=(number p i).2/\(number p i).2<=2:=by
 unfold number;split
 ·simp
 ·split
  ·simp only;omega
  ·simp only;omega
def count(p:ByteArray)(i:Int):Int × Int × Int × Bool :=
 if(number p (i+1)).2=0\/20<(number p (i+1)).1 then(0,0,0,false)
 else if zTC p (i+1+(number p (i+1)).2)=125 then((number p (i+1)).1,(number p (i+1)).1,i+1+(number p (i+1)).2+1,true)
 else if zTC p (i+1+(number p (i+1)).2)≠44 then(0,0,0,false)
 else if zTC p (i+1+(number p (i+1)).2+1)=125 then((number p (i+1)).1,-1,i+1+(number p (i+1)).2+2,true)
 else if(number p (i+1+(number p (i+1)).2+1)).2=0\/20<(number p (i+1+(number p (i+1)).2+1)).1\/(number p (i+1+(number p (i+1)).2+1)).1<(number p (i+1)).1 \/
   zTC p (i+1+(number p (i+1)).2+1+(number p (i+1+(number p (i+1)).2+1)).2)≠125 then(0,0,0,false)
 else((number p (i+1)).1,(number p (i+1+(number p (i+1)).2+1)).1,i+1+(number p (i+1)).2+2+(number p (i+1+(number p (i+1)).2+1)).2,true)
theorem zDe(p:ByteArray)(i:Int) :
  (((number p (i+1)).2==0)=true/\count p i=(0,0,0,false)) \/
  (((number p (i+1)).2==0)=false/\decide (20<(number p (i+1)).1)=true/\count p i=(0,0,0,false)) \/
  ((
   (number p (i+1)).2==0)=false/\decide (20<(number p (i+1)).1)=false /\
   (
   ((zTC p (i+1+(number p (i+1)).2)==125)=true/\count p i=((number p (i+1)).1,(number p (i+1)).1,i+1+(number p (i+1)).2+1,true)) \/
   ((zTC p (i+1+(number p (i+1)).2)==125)=false/\(zTC p (i+1+(number p (i+1)).2) != 44)=true/\count p i=(0,0,0,false)) \/
   ((
    zTC p (i+1+(number p (i+1)).2)==125)=false/\(zTC p (i+1+(number p (i+1)).2) != 44)=false /\
    (
     ((zTC p (i+1+(number p (i+1)).2+1)==125)=true/\count p i=((number p (i+1)).1,-1,i+1+(number p (i+1)).2+2,true)) \/
     ((
      zTC p (i+1+(number p (i+1)).2+1)==125)=false /\
      (
      (((number p (i+1+(number p (i+1)).2+1)).2==0)=true/\count p i=(0,0,0,false)) \/
      (((number p (i+1+(number p (i+1)).2+1)).2==0)=false/\decide (20<(number p (i+1+(number p (i+1)).2+1)).1)=true/\count p i=(0,0,0,false)) \/
      (((number p (i+1+(number p (i+1)).2+1)).2==0)=false/\decide (20<(number p (i+1+(number p (i+1)).2+1)).1)=false/\decide ((number p (i+1+(number p (i+1)).2+1)).1<(number p (i+1)).1)=true/\count p i=(0,0,0,false)) \/
      ((
       (number p (i+1+(number p (i+1)).2+1)).2==0)=false/\decide (20<(number p (i+1+(number p (i+1)).2+1)).1)=false/\decide ((number p (i+1+(number p (i+1)).2+1)).1<(number p (i+1)).1)=false /\
       (zTC p (i+1+(number p (i+1)).2+1+(number p (i+1+(number p (i+1)).2+1)).2) != 125)=true/\count p i=(0,0,0,false)) \/
      ((
       (number p (i+1+(number p (i+1)).2+1)).2==0)=false/\decide (20<(number p (i+1+(number p (i+1)).2+1)).1)=false/\decide ((number p (i+1+(number p (i+1)).2+1)).1<(number p (i+1)).1)=false /\
       (zTC p (i+1+(number p (i+1)).2+1+(number p (i+1+(number p (i+1)).2+1)).2) != 125)=false /\
       count p i=((number p (i+1)).1,(number p (i+1+(number p (i+1)).2+1)).1,i+1+(number p (i+1)).2+2+(number p (i+1+(number p (i+1)).2+1)).2,true)))))))):=by
 unfold count;generalize zTC p (i+1+(number p (i+1)).2+1+(number p (i+1+(number p (i+1)).2+1)).2)=z;generalize number p (i+1+(number p (i+1)).2+1)=y;generalize zTC p (i+1+(number p (i+1)).2+1)=d;generalize zTC p (i+1+(number p (i+1)).2)=c;generalize number p (i+1)=x;simp only[decide_eq_true_eq,lJ,beq_iff_eq,beq_eq_false_iff_ne,bne_iff_ne,bne_eq_false_iff_eq];by_cases h1:x.2=0\/20<x.1
 ·rw[if_pos h1];simp;omega
 ·rw[if_neg h1];by_cases h2:c=125
  ·rw[if_pos h2];simp;omega
  ·rw[if_neg h2];by_cases h3:c≠44
   ·rw[if_pos h3];simp;omega
   ·rw[if_neg h3];by_cases h4:d=125
    ·rw[if_pos h4];simp;omega
    ·rw[if_neg h4];by_cases h5:y.2=0\/20<y.1\/y.1<x.1\/z≠125
     ·rw[if_pos h5];simp;omega
     ·rw[if_neg h5];simp;omega
theorem zM3(p:ByteArray)(i:Int)(h0:0<=i):0<=(count p i).1/\(count p i).1<=20/\-1<=(count p i).2.1/\(count p i).2.1<=20/\0<=(count p i).2.2.1/\(count p i).2.2.1<=i+7:=by
 have b1:=dK p (i+1);have b2:=dK p (i+1+(number p (i+1)).2+1);unfold count;split
 ·simp;omega
 ·split
  ·simp only;omega
  ·split
   ·simp;omega
   ·split
    ·simp only;omega
    ·split
     ·simp;omega
     ·simp only;omega
structure zTD where
 kind:Int
 zTE:Int
 to:Int
 n:Int
 m:Int
 zTF:Int
 set:List UInt8
def kW(p:ByteArray)(i:Int):zTD × Bool :=
 if zTC p (i+1)≠63 then(⟨6,i,i+1,0,0,4,[]⟩,true)
 else if zTC p (i+2)=58 then(⟨6,i,i+3,0,0,3,[]⟩,true)
 else if zTC p (i+2)=62 then(⟨6,i,i+3,0,0,0,[]⟩,true)
 else if zTC p (i+2)=61 then(⟨6,i,i+3,0,0,1,[]⟩,true)
 else if zTC p (i+2)=33 then(⟨6,i,i+3,0,0,2,[]⟩,true)
 else(⟨6,i,i+3,0,0,4,[]⟩,false)
theorem nG(p:ByteArray)(i:Int) :
  ((zTC p (i+1) != 63)=true/\kW p i=(⟨6,i,i+1,0,0,4,[]⟩,true)) \/
  ((
   zTC p (i+1) != 63)=false /\
   (
   ((zTC p (i+2)==58)=true/\kW p i=(⟨6,i,i+3,0,0,3,[]⟩,true)) \/
   ((zTC p (i+2)==58)=false/\(zTC p (i+2)==62)=true/\kW p i=(⟨6,i,i+3,0,0,0,[]⟩,true)) \/
   ((zTC p (i+2)==58)=false/\(zTC p (i+2)==62)=false/\(zTC p (i+2)==61)=true/\kW p i=(⟨6,i,i+3,0,0,1,[]⟩,true)) \/
   ((zTC p (i+2)==58)=false/\(zTC p (i+2)==62)=false/\(zTC p (i+2)==61)=false/\(zTC p (i+2)==33)=true/\kW p i=(⟨6,i,i+3,0,0,2,[]⟩,true)) \/
   ((zTC p (i+2)==58)=false/\(zTC p (i+2)==62)=false/\(zTC p (i+2)==61)=false/\(zTC p (i+2)==33)=false/\kW p i=(⟨6,i,i+3,0,0,4,[]⟩,false)))):=by
 unfold kW;generalize zTC p (i+1)=c;generalize zTC p (i+2)=d;simp only[beq_iff_eq,beq_eq_false_iff_ne,bne_iff_ne,bne_eq_false_iff_eq];by_cases h1:c≠63
 ·rw[if_pos h1];simp;omega
 ·rw[if_neg h1];by_cases h2:d=58
  ·rw[if_pos h2];simp;omega
  ·rw[if_neg h2];by_cases h3:d=62
   ·rw[if_pos h3];simp;omega
   ·rw[if_neg h3];by_cases h4:d=61
    ·rw[if_pos h4];simp;omega
    ·rw[if_neg h4];by_cases h5:d=33
     ·rw[if_pos h5];simp;omega
     ·rw[if_neg h5];simp;omega
def vD(p:ByteArray)(i:Int):zTD × Bool :=
 if zTC p (i+1)<0 then(⟨1,i,i+2,0,0,0,[]⟩,false)
 else if zTC p (i+1)=100\/zTC p (i+1)=119 then(⟨1,i,i+2,0,0,0,all p i (i+2) false⟩,true)
 else if 49<=zTC p (i+1)/\zTC p (i+1)<=57 then(⟨2,i,i+2,zTC p (i+1)-48,0,0,[]⟩,true)
 else(⟨1,i,i+2,0,0,0,[UInt8.ofNat (zTC p (i+1)).toNat]⟩,!zBa (zTC p (i+1))&&!zA6 (zTC p (i+1)))
theorem zAt(p:ByteArray)(i:Int) :
  (decide (zTC p (i+1)<0)=true/\vD p i=(⟨1,i,i+2,0,0,0,[]⟩,false)) \/
  (0<=zTC p (i+1)/\decide (zTC p (i+1)<0)=false /\
   (
   ((zTC p (i+1)==100)=true/\vD p i=(⟨1,i,i+2,0,0,0,all p i (i+2) false⟩,true)) \/
   ((zTC p (i+1)==100)=false/\(zTC p (i+1)==119)=true/\vD p i=(⟨1,i,i+2,0,0,0,all p i (i+2) false⟩,true)) \/
   ((zTC p (i+1)==100)=false/\(zTC p (i+1)==119)=false/\49<=zTC p (i+1)/\zTC p (i+1)<=57/\decide (49<=zTC p (i+1))=true/\decide (zTC p (i+1)<=57)=true/\vD p i=(⟨2,i,i+2,zTC p (i+1)-48,0,0,[]⟩,true)) \/
   ((
    zTC p (i+1)==100)=false/\(zTC p (i+1)==119)=false/\(decide (49<=zTC p (i+1))=false\/decide (49<=zTC p (i+1))=true/\decide (zTC p (i+1)<=57)=false) /\
    vD p i=(⟨1,i,i+2,0,0,0,[UInt8.ofNat (zTC p (i+1)).toNat]⟩,!zBa (zTC p (i+1))&&!zA6 (zTC p (i+1)))))):=by
 unfold vD;generalize zTC p (i+1)=c;simp only[beq_iff_eq,beq_eq_false_iff_ne,decide_eq_true_eq,lJ];by_cases h1:c<0
 ·rw[if_pos h1];simp;omega
 ·rw[if_neg h1];by_cases h2:c=100\/c=119
  ·rw[if_pos h2];simp;omega
  ·rw[if_neg h2];by_cases h3:49<=c/\c<=57
   ·rw[if_pos h3];simp;omega
   ·rw[if_neg h3];simp;omega
def fF(p:ByteArray)(t:Int):Int × Int:=if zTC p t=63 then(1,t+1)else if zTC p t=43 then(2,t+1)else(0,t)
def jF(p:ByteArray)(i:Int):zTD × Bool :=
 if zTC p i=43 then(⟨8,i,(fF p (i+1)).2,1,-1,(fF p (i+1)).1,[]⟩,true)
 else if zTC p i=63 then(⟨8,i,(fF p (i+1)).2,0,1,(fF p (i+1)).1,[]⟩,true)
 else if zTC p i=123 then
  (if(count p i).2.2.2 then(⟨8,i,(fF p (count p i).2.2.1).2,(count p i).1,(count p i).2.1,(fF p (count p i).2.2.1).1,[]⟩,true)else(⟨8,i,i+1,0,-1,0,[]⟩,false))
 else(⟨8,i,(fF p (i+1)).2,0,-1,(fF p (i+1)).1,[]⟩,true)
def bI(p:ByteArray):Nat->Int->Int
 | 0,_=>-1
 | f+1,b =>
  if(p.size:Int)<=b then -1
  else if zTC p b=93 then b
  else if(yB p b).2.2.1=0 then -1
  else bI p f (b+(yB p b).2.2.1)
theorem zE7(p:ByteArray):∀(f g:Nat) (b:Int),(p.size:Int)-b<f->(p.size:Int)-b<g->bI p f b=bI p g b:=by
 intro f;induction f with
 | zero =>
  intro g b hf hg;cases g with
  | zero=>rfl
  | succ g=>simp only[bI];rw[if_pos (by omega)]
 | succ f ih =>
  intro g b hf hg;cases g with
  | zero=>simp only[bI];rw[if_pos (by omega)]
  | succ g =>
   simp only[bI];have hb:=tO p b;by_cases h0:(yB p b).2.2.1=0
   ·simp[h0]
   ·by_cases h1:(p.size:Int)<=b
    ·simp[h1]
    ·rw[ih g (b+(yB p b).2.2.1) (by omega) (by omega)]
def kI(p:ByteArray)(b:Int):Int:=bI p ((p.size:Int)-b+1).toNat b
theorem xJ(p:ByteArray)(b:Int):kI p b =
  if(p.size:Int)<=b then -1
  else if zTC p b=93 then b
  else if(yB p b).2.2.1=0 then -1
  else kI p (b+(yB p b).2.2.1):=by
 have hb:=tO p b;by_cases h:(p.size:Int)<=b
 ·rw[if_pos h];unfold kI;generalize ((p.size:Int)-b+1).toNat=f;cases f with
  | zero=>rfl
  | succ f=>simp only[bI];rw[if_pos h]
 ·rw[if_neg h];by_cases h1:zTC p b=93
  ·rw[if_pos h1];unfold kI;rw[show((p.size:Int)-b+1).toNat=((p.size:Int)-b).toNat+1 by omega];simp only[bI];rw[if_neg h,if_pos h1]
  ·rw[if_neg h1];by_cases h0:(yB p b).2.2.1=0
   ·rw[if_pos h0];unfold kI;rw[show((p.size:Int)-b+1).toNat=((p.size:Int)-b).toNat+1 by omega];simp only[bI];rw[if_neg h,if_neg h1,if_pos h0]
   ·rw[if_neg h0];unfold kI;rw[show((p.size:Int)-b+1).toNat=((p.size:Int)-b).toNat+1 by omega];simp only[bI];rw[if_neg h,if_neg h1,if_neg h0];exact zE7 _ _ _ _ (by omega) (by omega)
theorem zCt(p:ByteArray):∀(f:Nat) (b:Int),(p.size:Int)-b<f->0<=b->kI p b=-1\/(b<=kI p b/\kI p b<(p.size:Int)):=by
 intro f;induction f with
 | zero=>intro b h hb;rw[xJ,if_pos (by omega)];simp
 | succ f ih =>
  intro b h hb;have hi:=tO p b;rw[xJ];by_cases h1:(p.size:Int)<=b
  ·simp[h1]
  ·rw[if_neg h1];by_cases h2:zTC p b=93
   ·rw[if_pos h2];omega
   ·rw[if_neg h2];by_cases h3:(yB p b).2.2.1=0
    ·simp[h3]
    ·rw[if_neg h3];have:=ih (b+(yB p b).2.2.1) (by omega) (by omega);omega
def xC(p:ByteArray)(i:Int):Int:=if zTC p (i+1)=94 then i+2 else i+1
def qU(p:ByteArray)(i:Int):zTD × Bool :=
 if kI p (xC p i)=-1\/kI p (xC p i)=xC p i then(⟨0,0,0,0,0,0,[]⟩,false)
 else(⟨1,i,kI p (xC p i)+1,0,0,0,all p (xC p i) (kI p (xC p i)) (decide (zTC p (i+1)=94))⟩,true)
def jJ(p:ByteArray)(i:Int):zTD × Int :=
 if zTC p i=124 then(⟨5,i,i+1,0,0,0,[]⟩,0)
 else if zTC p i=41 then(⟨7,i,i+1,0,0,0,[]⟩,0)
 else if zTC p i=94 then(⟨3,i,i+1,0,0,0,[]⟩,0)
 else if zTC p i=36 then(⟨4,i,i+1,0,0,0,[]⟩,0)
 else if zTC p i=92 then((vD p i).1,if(vD p i).2 then 0 else 2)
 else if zTC p i=91 then((qU p i).1,if(qU p i).2 then 0 else 3)
 else if zTC p i=40 then((kW p i).1,if(kW p i).2 then 0 else 5)
 else if zTC p i=42\/zTC p i=43\/zTC p i=63\/zTC p i=123 then((jF p i).1,if(jF p i).2 then 0 else 4)
 else if zTC p i=46 then(⟨1,i,i+1,0,0,0,all p i i true⟩,0)
 else(⟨1,i,i+1,0,0,0,[UInt8.ofNat (zTC p i).toNat]⟩,0)
def jZ:zTD:=⟨0,0,0,0,0,0,[]⟩
def jW(t:zTD):Int:=if t.kind=6 then 1 else if t.kind=7 then -1 else 0
def kJ:List zTD->Int
 | []=>0
 | t::r=>jW t+kJ r
theorem vM(a b:List zTD):kJ (a++b)=kJ a+kJ b:=by
 induction a with
 | nil=>simp[kJ]
 | cons t r ih=>simp only[List.cons_append,kJ,ih];omega
theorem zDf(l:List zTD)(k:Nat)(h:k<l.length):l.take (k+1)=l.take k++[l.getD k jZ]:=by
 rw[List.take_succ_eq_append_getElem h,lH,lK h];rfl
theorem zDg(l:List zTD)(k:Nat)(h:k<l.length):kJ (l.take (k+1))=kJ (l.take k)+jW (l.getD k jZ):=by
 rw[zDf l k h,vM];simp[kJ]
theorem zM4(t:zTD):-1<=jW t/\jW t<=1:=by
 unfold jW;split
 ·omega
 ·split <;> omega
theorem zBA(l:List zTD):-(l.length:Int)<=kJ l/\kJ l<=l.length:=by
 induction l with
 | nil=>simp[kJ]
 | cons t r ih=>have:=zM4 t;simp only[kJ,List.length_cons];omega
theorem zEj(l:List zTD)(k:Nat):-(k:Int)<=kJ (l.take k)/\kJ (l.take k)<=k:=by
 have:=zBA (l.take k);have h2:(l.take k).length<=k:=List.length_take_le _ _;omega
def jO(t:zTD):Bool:=decide (t.kind=6/\t.zTF=4)
def zZ:List zTD->Int
 | []=>0
 | t::r=>(if jO t then 1 else 0)+zZ r
theorem bJ(a b:List zTD):zZ (a++b)=zZ a+zZ b:=by
 induction a with
 | nil=>simp[zZ]
 | cons t r ih=>simp only[List.cons_append,zZ,ih];omega
theorem nH(l:List zTD)(k:Nat)(h:k<l.length):zZ (l.take (k+1))=zZ (l.take k)+if jO (l.getD k jZ)then 1 else 0:=by
 rw[zDf l k h,bJ];simp[zZ]
theorem fM(l:List zTD):0<=zZ l/\zZ l<=l.length:=by
 induction l with
 | nil=>simp[zZ]
 | cons t r ih=>simp only[zZ,List.length_cons];split <;> omega
theorem zCO(l:List zTD)(k:Nat):0<=zZ (l.take k)/\zZ (l.take k)<=k:=by
 have:=fM (l.take k);have h2:(l.take k).length<=k:=List.length_take_le _ _;omega
def jB:List zTD->Int->Nat->Nat
 | [],_,j=>j
 | t::r,n,j=>if n+jW t=0 then j else jB r (n+jW t) (j+1)
def jH(l:List zTD)(i:Nat):Nat:=jB (l.drop i) 0 i
theorem zBB(l:List zTD)(k:Nat)(h:k<l.length):l.drop k=l.getD k jZ::l.drop (k+1):=by
 rw[List.drop_eq_getElem_cons h,lH,lK h];rfl
theorem zGe:∀(l:List zTD) (n:Int) (j:Nat),jB l n j<=j+l.length:=by
 intro l;induction l with
 | nil=>intro n j;simp[jB]
 | cons t r ih =>
  intro n j;simp only[jB,List.length_cons];split
  ·omega
  ·have:=ih (n+jW t) (j+1);omega
theorem zGf:∀(l:List zTD) (n:Int) (j:Nat),j<=jB l n j:=by
 intro l;induction l with
 | nil=>intro n j;simp[jB]
 | cons t r ih =>
  intro n j;simp only[jB];split
  ·omega
  ·have:=ih (n+jW t) (j+1);omega
theorem zB3(l:List zTD)(i:Nat)(h:i<=l.length):jH l i<=l.length:=by
 have:=zGe (l.drop i) 0 i;rw[List.length_drop]at this;unfold jH;omega
theorem nL(l:List zTD)(i:Nat):i<=jH l i:=zGf _ _ _
def vE(l:List zTD)(k:Int):List zTD->Nat->Bool
 | [],_=>false
 | t::r,j=>if jO t=true/\t.n=k then decide (jH l j<l.length)else vE l k r (j+1)
def closed(l:List zTD)(k:Int):Bool:=vE l k l 0
def xD(l:List zTD):Bool :=
 match l.getLast? with
 | none=>false
 | some t=>decide (t.kind=1\/t.kind=2\/t.kind=3\/t.kind=4\/t.kind=7)
def may(l:List zTD)(t:zTD):Int :=
 if t.kind=2 then(if closed l t.n then 0 else 6)
 else if t.kind=8 then(if xD l then 0 else 7)
 else if t.kind=6 then(if 10<=kJ l then 8 else if t.zTF=4/\9<=zZ l then 9 else 0)
 else if t.kind=7 then(if kJ l=0 then 10 else 0)
 else 0
def yQ(l:List zTD)(t:zTD):zTD:=if jO t then { t with n:=zZ l+1 } else t
def bK(p:ByteArray):Nat->List zTD->Int->List zTD × Int × Int
 | 0,l,i=>(l,0,i)
 | f+1,l,i =>
  if(p.size:Int)<=i then(l,0,i)
  else if(jJ p i).2≠0 then([],(jJ p i).2,i)
  else if may l (jJ p i).1≠0 then([],may l (jJ p i).1,i)
  else bK p f (l++[yQ l (jJ p i).1]) (jJ p i).1.to
def zY(p:ByteArray):List zTD × Int × Int :=
 if 64<p.size then([],1,0)
 else if(bK p 65 [] 0).2.1≠0 then bK p 65 [] 0
 else if 0<kJ (bK p 65 [] 0).1 then([],11,p.size)
 else((bK p 65 [] 0).1,0,0)
theorem zEk(l:List zTD)(n:Int)(k:Nat)(h:k<l.length):jB (l.drop k) n k=if n+jW (l.getD k jZ)=0 then k else jB (l.drop (k+1)) (n+jW (l.getD k jZ)) (k+1):=by
 rw[zBB l k h];rfl
theorem zAu(l:List zTD)(c:Int)(k:Nat)(h:k<l.length):vE l c (l.drop k) k=if jO (l.getD k jZ)=true/\(l.getD k jZ).n=c then decide (jH l k<l.length)else vE l c (l.drop (k+1)) (k+1):=by
 rw[zBB l k h];rfl
theorem zM5(p:ByteArray)(i:Int)(h0:0<=i)(h:(count p i).2.2.2=true):i<(count p i).2.2.1/\(count p i).2.2.1<=p.size:=by
 have b1:=dK p (i+1);have b2:=dK p (i+1+(number p (i+1)).2+1);unfold count at h |-;split at h
 ·simp at h
 ·rename_i h1
  split at h
  ·rename_i h2
   rw[if_neg h1,if_pos h2];have:=zAn p (i+1+(number p (i+1)).2) (by omega);simp only;omega
  ·rename_i h2
   split at h
   ·simp at h
   ·rename_i h3
    split at h
    ·rename_i h4
     rw[if_neg h1,if_neg h2,if_neg h3,if_pos h4];have:=zAn p (i+1+(number p (i+1)).2+1) (by omega);simp only;omega
    ·rename_i h4
     split at h
     ·simp at h
     ·rename_i h5
      rw[if_neg h1,if_neg h2,if_neg h3,if_neg h4,if_neg h5];have:=zAn p (i+1+(number p (i+1)).2+1+(number p (i+1+(number p (i+1)).2+1)).2) (by omega);simp only;omega
theorem zKP(p:ByteArray)(t:Int)(h0:0<=t)(h:t<=p.size):t<=(fF p t).2/\(fF p t).2<=p.size:=by
 unfold fF;split
 ·have:=zAn p t (by omega);simp only;omega
 ·split
  ·have:=zAn p t (by omega);simp only;omega
  ·simp only;omega
theorem zKQ(p:ByteArray)(i:Int)(h0:0<=i)(h1:i<p.size)(h:(jF p i).2=true):i<(jF p i).1.to/\(jF p i).1.to<=p.size:=by
 have m1:=zKP p (i+1) (by omega) (by omega);unfold jF at h |-;split
 ·simp only;omega
 ·split
  ·simp only;omega
  ·split
   ·rename_i a b c
    rw[if_neg a,if_neg b,if_pos c]at h;split at h
    ·rename_i d
     have k:=zM5 p i h0 d;have m2:=zKP p (count p i).2.2.1 (by omega) (by omega);rw[if_pos d];simp only;omega
    ·simp at h
   ·simp only;omega
theorem zJu(p:ByteArray)(i:Int)(h0:0<=i)(h1:i<p.size)(h:(kW p i).2=true):i<(kW p i).1.to/\(kW p i).1.to<=p.size:=by
 rcases nG p i with ⟨a1,e⟩ | ⟨a1,⟨a2,e⟩ | ⟨a2,a3,e⟩ | ⟨a2,a3,a4,e⟩ | ⟨a2,a3,a4,a5,e⟩ | ⟨a2,a3,a4,a5,e⟩⟩
 ·rw[e];simp only;omega
 ·rw[e];have:=zAn p (i+2) (by rw[eq_of_beq a2];omega);simp only;omega
 ·rw[e];have:=zAn p (i+2) (by rw[eq_of_beq a3];omega);simp only;omega
 ·rw[e];have:=zAn p (i+2) (by rw[eq_of_beq a4];omega);simp only;omega
 ·rw[e];have:=zAn p (i+2) (by rw[eq_of_beq a5];omega);simp only;omega
 ·rw[e]at h;simp at h
theorem zKR(p:ByteArray)(i:Int)(h0:0<=i)(h1:i<p.size)(h:(vD p i).2=true):i<(vD p i).1.to/\(vD p i).1.to<=p.size:=by
 rcases zAt p i with ⟨a1,e⟩ | ⟨a0,a1,⟨a2,e⟩ | ⟨a2,a3,e⟩ | ⟨a2,a3,a4,a5,a6,a7,e⟩ | ⟨a2,a3,a4,e⟩⟩
 ·rw[e]at h;simp at h
 all_goals
  rw[e];have:=zAn p (i+1) a0;simp only;omega
theorem zM6(p:ByteArray)(i:Int)(h0:0<=i)(h1:i<p.size)(h:(qU p i).2=true):i<(qU p i).1.to/\(qU p i).1.to<=p.size:=by
 have ha:i+1<=xC p i:=by unfold xC;split <;> omega
 have hb:=zCt p ((p.size:Int)-xC p i+1).toNat (xC p i) (by omega) (by omega);unfold qU at h |-;split at h
 ·simp at h
 ·rename_i g
  rw[if_neg g];simp only;omega
theorem wP(p:ByteArray)(i:Int)(h0:0<=i)(h1:i<p.size)(h:(jJ p i).2=0):i<(jJ p i).1.to/\(jJ p i).1.to<=p.size:=by
 unfold jJ at h |-;split
 ·simp only;omega
 split
 ·simp only;omega
 split
 ·simp only;omega
 split
 ·simp only;omega
 split
 ·rename_i a b c d e
  rw[if_neg a,if_neg b,if_neg c,if_neg d,if_pos e]at h;exact zKR p i h0 h1 (by cases x:(vD p i).2 <;> simp[x]at h |-)
 split
 ·rename_i a b c d e f
  rw[if_neg a,if_neg b,if_neg c,if_neg d,if_neg e,if_pos f]at h;exact zM6 p i h0 h1 (by cases x:(qU p i).2 <;> simp[x]at h |-)
 split
 ·rename_i a b c d e f g
  rw[if_neg a,if_neg b,if_neg c,if_neg d,if_neg e,if_neg f,if_pos g]at h;exact zJu p i h0 h1 (by cases x:(kW p i).2 <;> simp[x]at h |-)
 split
 ·rename_i a b c d e f g k
  rw[if_neg a,if_neg b,if_neg c,if_neg d,if_neg e,if_neg f,if_neg g,if_pos k]at h;exact zKQ p i h0 h1 (by cases x:(jF p i).2 <;> simp[x]at h |-)
 split
 ·simp only;omega
 ·simp only;omega
def yL(p:ByteArray)(l:List zTD)(i:Int):List zTD × Int × Int:=bK p ((p.size:Int)-i+1).toNat l i
theorem zBC(p:ByteArray):∀(f g:Nat) (l:List zTD) (i:Int),0<=i->(p.size:Int)-i<f->(p.size:Int)-i<g->i<=p.size->bK p f l i=bK p g l i:=by
 intro f;induction f with
 | zero =>
  intro g l i h0 hf hg hi;omega
 | succ f ih =>
  intro g l i h0 hf hg hi;cases g with
  | zero=>omega
  | succ g =>
   simp only[bK];by_cases h1:(p.size:Int)<=i
   ·rw[if_pos h1,if_pos h1]
   ·rw[if_neg h1,if_neg h1];by_cases h2:(jJ p i).2≠0
    ·rw[if_pos h2,if_pos h2]
    ·rw[if_neg h2,if_neg h2];have:=wP p i h0 (by omega) (by omega);split
     ·rfl
     ·exact ih g _ _ (by omega) (by omega) (by omega) (by omega)
theorem pF(p:ByteArray)(l:List zTD)(i:Int)(h0:0<=i)(hi:i<=p.size):yL p l i =
  if(p.size:Int)<=i then(l,0,i)
  else if(jJ p i).2≠0 then([],(jJ p i).2,i)
  else if may l (jJ p i).1≠0 then([],may l (jJ p i).1,i)
  else yL p (l++[yQ l (jJ p i).1]) (jJ p i).1.to:=by
 unfold yL;rw[show((p.size:Int)-i+1).toNat=((p.size:Int)-i).toNat+1 by omega];simp only[bK];by_cases h1:(p.size:Int)<=i
 ·rw[if_pos h1,if_pos h1]
 ·rw[if_neg h1,if_neg h1];by_cases h2:(jJ p i).2≠0
  ·rw[if_pos h2,if_pos h2]
  ·rw[if_neg h2,if_neg h2];have:=wP p i h0 (by omega) (by omega);split
   ·rfl
   ·exact zBC p _ _ _ _ (by omega) (by omega) (by omega) (by omega)
theorem xZ(p:ByteArray)(h:p.size<=64):bK p 65 [] 0=yL p [] 0:=zBC p _ _ _ _ (by omega) (by omega) (by omega) (by omega)
structure zTG where
 op:Int
 x:Int
 y:Int
 set:List UInt8
def jY:zTG:=⟨0,0,0,[]⟩
def fU(i:zTG)(by':Int):zTG :=
 if i.op=2 then⟨i.op,i.x+by',i.y+by',i.set⟩
 else if i.op=3\/i.op=5 then⟨i.op,i.x+by',i.y,i.set⟩
 else if i.op=11 then⟨i.op,i.x,i.y+by',i.set⟩
 else i
def vF(c:List zTG)(by':Int):List zTG:=c.map λi=>fU i by'
theorem yE(c:List zTG)(n:Int):(vF c n).length=c.length:=by simp[vF]
def zO(a b:List zTG):List zTG:=if 300<a.length then a else a++vF b a.length
def qR(x y:Int)(late:Bool):List zTG:=if late then[⟨2,y,x,[]⟩]else[⟨2,x,y,[]⟩]
def zHE(M:Int)(i:zTG):Prop:=-M<=i.x/\i.x<=M/\-M<=i.y/\i.y<=M
def fit(M:Int)(c:List zTG):Prop:=(c.length:Int)<=M/\∀i∈c,zHE M i
theorem pR{M N:Int}{i:zTG}(h:zHE M i)(hn:M<=N):zHE N i:=by unfold zHE at *;omega
theorem zR{M N:Int}{c:List zTG}(h:fit M c)(hn:M<=N):fit N c:=⟨by have:=h.1;omega,λi hi=>pR (h.2 i hi) hn⟩
theorem mU{M:Int}{i:zTG}(h:zHE M i)(h1:1<=M):fit M [i]:=⟨by simpa using h1,λj hj=>by simp at hj;rw[hj];exact h⟩
theorem fO{M:Int}(h:0<=M):fit M []:=⟨by simpa using h,λj hj=>by simp at hj⟩
theorem zB4{M n:Int}{i:zTG}(h:zHE M i)(h0:0<=n)(hn:n<=300):zHE (M+300) (fU i n):=by
 unfold zHE at *;unfold fU;split
 ·simp only;omega
 ·split
  ·simp only;omega
  ·split
   ·simp only;omega
   ·omega
theorem vY{M:Int}{a b:List zTG}(ha:fit M a)(hb:fit M b):fit (M+300) (zO a b):=by
 unfold zO;by_cases h:300<a.length
 ·rw[if_pos h];exact zR ha (by omega)
 ·rw[if_neg h];refine⟨?_,λi hi=>?_⟩
  ·rw[lM,yE];have:=hb.1;omega
  ·rcases List.mem_append.1 hi with hi | hi
   ·exact pR (ha.2 i hi) (by omega)
   ·unfold vF at hi;obtain⟨j,hj,rfl⟩:=List.mem_map.1 hi;exact zB4 (hb.2 j hj) (by omega) (by omega)
def yF(l:List zTD)(k:Nat):Int:=(l.getD k jZ).kind
def wQ(l:List zTD)(b:Nat):Nat->Nat->Nat
 | 0,_=>b
 | f+1,i =>
  if b<=i then b
  else if yF l i=5 then i
  else if yF l i=6 then wQ l b f (jH l i+1)
  else wQ l b f (i+1)
theorem zCu(l:List zTD)(b:Nat):∀(f g i:Nat),b-i<=f->b-i<=g->wQ l b f i=wQ l b g i:=by
 intro f;induction f with
 | zero =>
  intro g i hf hg;cases g with
  | zero=>rfl
  | succ g=>simp only[wQ];rw[if_pos (by omega)]
 | succ f ih =>
  intro g i hf hg;cases g with
  | zero=>simp only[wQ];rw[if_pos (by omega)]
  | succ g =>
   simp only[wQ];by_cases h:b<=i
   ·rw[if_pos h,if_pos h]
   ·rw[if_neg h,if_neg h];have hc:=nL l i;rw[ih g (jH l i+1) (by omega) (by omega),ih g (i+1) (by omega) (by omega)]
def bar(l:List zTD)(a b:Nat):Nat:=wQ l b (b-a) a
theorem dR(l:List zTD)(i b:Nat):bar l i b =
  if b<=i then b else if yF l i=5 then i else if yF l i=6 then bar l (jH l i+1) b else bar l (i+1) b:=by
 have hc:=nL l i;by_cases h:b<=i
 ·rw[if_pos h];unfold bar;rw[show b-i=0 by omega];rfl
 ·rw[if_neg h];unfold bar;rw[show b-i=(b-i-1)+1 by omega];simp only[wQ];rw[if_neg h];rw[zCu l b (b-i-1) (b-(jH l i+1)) (jH l i+1) (by omega) (by omega),zCu l b (b-i-1) (b-(i+1)) (i+1) (by omega) (by omega)]
theorem zQe(l:List zTD)(b:Nat):∀f i,b-i<=f->bar l i b<=b:=by
 intro f;induction f with
 | zero=>intro i h;rw[dR,if_pos (by omega)];omega
 | succ f ih =>
  intro i h;have hc:=nL l i;rw[dR];by_cases h1:b<=i
  ·rw[if_pos h1];omega
  ·rw[if_neg h1];split
   ·omega
   ·split
    ·exact ih _ (by omega)
    ·exact ih _ (by omega)
theorem zQf(l:List zTD)(b:Nat):∀f i,b-i<=f->bar l i b=b\/(i<=bar l i b/\bar l i b<b):=by
 intro f;induction f with
 | zero=>intro i h;rw[dR,if_pos (by omega)];simp
 | succ f ih =>
  intro i h;have hc:=nL l i;rw[dR];by_cases h1:b<=i
  ·rw[if_pos h1];simp
  ·rw[if_neg h1];split
   ·omega
   ·split
    ·have:=ih (jH l i+1) (by omega);omega
    ·have:=ih (i+1) (by omega);omega
def after(l:List zTD)(i:Nat):Nat:=if yF l i=6 then jH l i+1 else i+1
theorem zM7(l:List zTD)(i:Nat):i<after l i:=by unfold after;have:=nL l i;split <;> omega
theorem zM8(l:List zTD)(i:Nat)(h:i<l.length):after l i<=l.length+1:=by unfold after;have:=zB3 l i (by omega);split <;> omega
def alone(sort:Int)(c:List zTG):List zTG:=zO (zO [⟨11,sort,c.length+2,[]⟩] c) [⟨12,0,0,[]⟩]
def pG(y:List zTG)(d:Int)(late:Bool):List zTG:=zO (zO (zO (qR 1 (y.length+3) late) [⟨4,d,0,[]⟩]) y) [⟨5,-y.length-2,d,[]⟩]
def pI(x:List zTG)(late:Bool):Nat->List zTG->List zTG
 | 0,c=>c
 | n+1,c=>pI x late n (zO c (zO (qR 1 (((n:Int)+1)*(x.length+1)) late) x))
def upTo(x:List zTG)(k:Nat)(late:Bool):List zTG:=pI x late k []
def zH(x:List zTG):Nat->List zTG->List zTG
 | 0,c=>c
 | n+1,c=>zH x n (zO c x)
def vW(at' rp:Nat->Nat->List zTG)(l:List zTD)(b:Nat):Nat->Nat->List zTG->List zTG
 | 0,_,c=>c
 | f+1,i,c =>
  if b<=i then c
  else if after l i<b/\yF l (after l i)=8 then vW at' rp l b f (after l i+1) (zO c (rp i (after l i)))
  else vW at' rp l b f (after l i) (zO c (at' i (after l i)))
def zCP(n:Int):List zTG:=[⟨3,n,0,[]⟩]
def gen(l:List zTD):Nat->Nat->Nat->Nat->Int->List zTG
 | 0,_,_,_,_=>[]
 | f+1,0,a,b,d =>
  if bar l a b=b then gen l f 1 a (bar l a b) d
  else zO (zO (zO (qR 1 ((gen l f 1 a (bar l a b) d).length+2) false) (gen l f 1 a (bar l a b) d)) (zCP (1+(gen l f 0 (bar l a b+1) b d).length))) (gen l f 0 (bar l a b+1) b d)
 | f+1,1,a,b,d=>vW (λi j=>gen l f 2 i j d) (λi j=>gen l f 3 i j d) l b (b-a) a []
 | f+1,2,a,b,d =>
  if yF l a=1 then[⟨1,0,0,(l.getD a jZ).set⟩]
  else if yF l a=2 then[⟨8,(l.getD a jZ).n,0,[]⟩]
  else if yF l a=3 then[⟨9,0,0,[]⟩]
  else if yF l a=4 then[⟨10,0,0,[]⟩]
  else if(l.getD a jZ).zTF=3 then gen l f 0 (a+1) (b-1) d
  else if(l.getD a jZ).zTF=4 then zO (zO [⟨6,(l.getD a jZ).n,0,[]⟩] (gen l f 0 (a+1) (b-1) d)) [⟨7,(l.getD a jZ).n,0,[]⟩]
  else alone (l.getD a jZ).zTF (gen l f 0 (a+1) (b-1) d)
 | f+1,_+3,a,b,d =>
  let r:=l.getD b jZ
  let c1:=if 0<r.n\/0<r.m then
    (if r.n<r.m then zO (zH (gen l f 2 a b d) r.n.toNat []) (upTo (gen l f 2 a b d) (r.m-r.n).toNat (decide (r.zTF=1)))else zH (gen l f 2 a b d) r.n.toNat [])
   else[]
  let c2:=if r.m<0 then zO c1 (pG (gen l f 2 a b (d+1)) d (decide (r.zTF=1)))else c1
  if r.zTF=2 then alone 0 c2 else c2
def coded(l:List zTD):List zTG:=zO (gen l 283 0 0 l.length 0) [⟨13,0,0,[]⟩]
