import Derived.Below
set_option linter.unusedVariables false
set_option linter.unusedSimpArgs false
namespace Mt
def atB (p:ByteArray) (i:Int):Int:=if i<0∨(p.size:Int)≤i then -1 else ((p.data.toList.getD i.toNat 0).toNat:Int)
theorem zHP (p:ByteArray) (i:Int):-1≤atB p i:=by unfold atB;split <;> omega
theorem zEi (p:ByteArray) (i:Int):atB p i≤255:=by
 unfold atB;split
 ·omega
 ·have:=(p.data.toList.getD i.toNat 0).toNat_lt;omega
theorem zEY (p:ByteArray) (i:Int) (h:i<0∨(p.size:Int)≤i):atB p i=-1:=by unfold atB;rw [if_pos h]
theorem zP1 (p:ByteArray) (i:Int) (h0:0≤i) (h:i<(p.size:Int)):atB p i=((p.data.toList.getD i.toNat 0).toNat:Int):=by
 unfold atB;rw [if_neg (by omega)]
theorem zCg (p:ByteArray) (i:Int) (h:0≤atB p i):0≤i∧i<(p.size:Int):=by
 unfold atB at h;split at h <;> omega
def zC2 (c:Int):Bool:=decide (48≤c∧c≤57)
def zCY (c:Int):Bool:=decide ((97≤c∧c≤122)∨(65≤c∧c≤90))
def zD (p:ByteArray) (i:Int):Int × Int :=
 if atB p i<0∨atB p i=93∨atB p i=45 then (0,0)
 else if atB p i≠92 then (atB p i,1)
 else if atB p (i+1)<0∨zC2 (atB p (i+1))=true∨zCY (atB p (i+1))=true then (0,0)
 else (atB p (i+1),2)
theorem zEZ (p:ByteArray) (i:Int) :
  (decide (atB p i<0)=true∧zD p i=(0,0)) ∨
  (0≤atB p i∧decide (atB p i<0)=false ∧
   (
   ((atB p i==93)=true∧zD p i=(0,0)) ∨
   ((atB p i==93)=false∧(atB p i==45)=true∧zD p i=(0,0)) ∨
   ((atB p i==93)=false∧(atB p i==45)=false∧(atB p i != 92)=true∧zD p i=(atB p i,1)) ∨
   ((atB p i==93)=false∧(atB p i==45)=false∧(atB p i != 92)=false∧decide (atB p (i+1)<0)=true∧zD p i=(0,0)) ∨
   ((atB p i==93)=false∧(atB p i==45)=false∧(atB p i != 92)=false∧0≤atB p (i+1)∧decide (atB p (i+1)<0)=false∧zC2 (atB p (i+1))=true∧zD p i=(0,0)) ∨
   ((atB p i==93)=false∧(atB p i==45)=false∧(atB p i != 92)=false∧0≤atB p (i+1)∧decide (atB p (i+1)<0)=false∧zC2 (atB p (i+1))=false∧zCY (atB p (i+1))=true∧zD p i=(0,0)) ∨
   ((atB p i==93)=false∧(atB p i==45)=false∧(atB p i != 92)=false∧0≤atB p (i+1)∧decide (atB p (i+1)<0)=false∧zC2 (atB p (i+1))=false∧zCY (atB p (i+1))=false∧zD p i=(atB p (i+1),2)))):=by
 unfold zD
 generalize atB p i=c
 generalize atB p (i+1)=d
 simp only [decide_eq_true_eq,decide_eq_false_iff_not,beq_iff_eq,beq_eq_false_iff_ne,bne_iff_ne,bne_eq_false_iff_eq]
 by_cases h1:c<0∨c=93∨c=45
 ·rw [if_pos h1];simp;omega
 ·rw [if_neg h1]
  by_cases h2:c≠92
  ·rw [if_pos h2];simp;omega
  ·rw [if_neg h2]
   cases h3:zC2 d <;> cases h4:zCY d <;> simp <;> by_cases h5:d<0 <;> simp [h5] <;> omega
theorem vX (p:ByteArray) (i:Int):0≤(zD p i).1∧(zD p i).1≤255∧0≤(zD p i).2∧(zD p i).2≤2:=by
 have l1:=zEi p i
 have l2:=zEi p (i+1)
 unfold zD
 split
 ·simp
 ·split
  ·simp only;omega
  ·split
   ·simp
   ·simp only;omega
def zCl (w:Bool) (c:Int):Bool:=zC2 c||(w&&(zCY c||decide (c=95)))
def item (p:ByteArray) (i:Int):Int × Int × Int × Bool :=
 if atB p i=92∧(atB p (i+1)=100∨atB p (i+1)=119) then (92,atB p (i+1),2,true)
 else if (zD p i).2=0 then (0,0,0,false)
 else if atB p (i+(zD p i).2)≠45 then ((zD p i).1,(zD p i).1,(zD p i).2,false)
 else if (zD p (i+(zD p i).2+1)).2=0∨(zD p (i+(zD p i).2+1)).1<(zD p i).1 then (0,0,0,false)
 else ((zD p i).1,(zD p (i+(zD p i).2+1)).1,(zD p i).2+1+(zD p (i+(zD p i).2+1)).2,false)
theorem zKY (p:ByteArray) (i:Int) :
  ((atB p i==92)=true∧(atB p (i+1)==100)=true∧0≤atB p (i+1)∧item p i=(92,atB p (i+1),2,true)) ∨
  ((atB p i==92)=true∧(atB p (i+1)==100)=false∧(atB p (i+1)==119)=true∧0≤atB p (i+1)∧item p i=(92,atB p (i+1),2,true)) ∨
  ((
   (atB p i==92)=false∨(atB p i==92)=true∧(atB p (i+1)==100)=false∧(atB p (i+1)==119)=false) ∧
   (
   (((zD p i).2==0)=true∧item p i=(0,0,0,false)) ∨
   (((zD p i).2==0)=false∧(atB p (i+(zD p i).2) != 45)=true∧item p i=((zD p i).1,(zD p i).1,(zD p i).2,false)) ∨
   (((zD p i).2==0)=false∧(atB p (i+(zD p i).2) != 45)=false∧((zD p (i+(zD p i).2+1)).2==0)=true∧item p i=(0,0,0,false)) ∨
   (((zD p i).2==0)=false∧(atB p (i+(zD p i).2) != 45)=false∧((zD p (i+(zD p i).2+1)).2==0)=false∧decide ((zD p (i+(zD p i).2+1)).1<(zD p i).1)=true∧item p i=(0,0,0,false)) ∨
   ((
    (zD p i).2==0)=false∧(atB p (i+(zD p i).2) != 45)=false∧((zD p (i+(zD p i).2+1)).2==0)=false∧decide ((zD p (i+(zD p i).2+1)).1<(zD p i).1)=false ∧
    item p i=((zD p i).1,(zD p (i+(zD p i).2+1)).1,(zD p i).2+1+(zD p (i+(zD p i).2+1)).2,false)))):=by
 unfold item
 generalize zD p (i+(zD p i).2+1)=y
 generalize atB p (i+(zD p i).2)=z
 generalize zD p i=x
 generalize atB p i=c
 generalize atB p (i+1)=d
 simp only [decide_eq_true_eq,decide_eq_false_iff_not,beq_iff_eq,beq_eq_false_iff_ne,bne_iff_ne,bne_eq_false_iff_eq]
 by_cases h1:c=92∧(d=100∨d=119)
 ·rw [if_pos h1]
  rcases h1 with ⟨rfl,rfl | rfl⟩ <;> simp
 ·rw [if_neg h1]
  right;right
  refine ⟨by omega,?_⟩
  by_cases h2:x.2=0
  ·rw [if_pos h2];simp [h2]
  ·rw [if_neg h2]
   by_cases h3:z≠45
   ·rw [if_pos h3];simp;omega
   ·rw [if_neg h3]
    by_cases h4:y.2=0∨y.1<x.1
    ·rw [if_pos h4];simp;omega
    ·rw [if_neg h4];simp;omega
theorem zBy (p:ByteArray) (i:Int):0≤(item p i).1∧(item p i).1≤255∧0≤(item p i).2.1∧(item p i).2.1≤255∧0≤(item p i).2.2.1∧(item p i).2.2.1≤5:=by
 have b1:=vX p i
 have b2:=vX p (i+(zD p i).2+1)
 unfold item
 split
 ·simp only;omega
 ·split
  ·simp
  ·split
   ·simp only;omega
   ·split
    ·simp
    ·simp only;omega
def inC (p:ByteArray) (b c:Int):Nat→Int→Bool
 | 0,_=>false
 | f+1,i =>
  if b≤i then false
  else if (item p i).2.2.1=0 then false
  else if (item p i).2.2.2 then (if zCl (decide ((item p i).2.1=119)) c then true else inC p b c f (i+(item p i).2.2.1))
  else if (item p i).1≤c∧c≤(item p i).2.1 then true
  else inC p b c f (i+(item p i).2.2.1)
theorem zOq (p:ByteArray) (b c:Int):∀ (f g:Nat) (i:Int),b-i≤f→b-i≤g→inC p b c f i=inC p b c g i:=by
 intro f
 induction f with
 | zero =>
  intro g i hf hg
  cases g with
  | zero=>rfl
  | succ g=>simp only [inC];rw [if_pos (by omega)]
 | succ f ih =>
  intro g i hf hg
  cases g with
  | zero=>simp only [inC];rw [if_pos (by omega)]
  | succ g =>
   simp only [inC]
   have hb:=zBy p i
   by_cases h0:(item p i).2.2.1=0
   ·simp [h0]
   ·rw [ih g (i+(item p i).2.2.1) (by omega) (by omega)]
def kN (p:ByteArray) (a b c:Int):Bool:=inC p b c (b-a).toNat a
theorem qZ (p:ByteArray) (i b c:Int):kN p i b c =
  if b≤i then false
  else if (item p i).2.2.1=0 then false
  else if (item p i).2.2.2 then (if zCl (decide ((item p i).2.1=119)) c then true else kN p (i+(item p i).2.2.1) b c)
  else if (item p i).1≤c∧c≤(item p i).2.1 then true
  else kN p (i+(item p i).2.2.1) b c:=by
 have hb:=zBy p i
 by_cases h:b≤i
 ·rw [if_pos h];unfold kN
  rw [show (b-i).toNat=0 by omega];rfl
 ·rw [if_neg h]
  by_cases h0:(item p i).2.2.1=0
  ·rw [if_pos h0];unfold kN
   rw [show (b-i).toNat=(b-i).toNat-1+1 by omega];simp only [inC]
   rw [if_neg h,if_pos h0]
  ·rw [if_neg h0]
   have e:inC p b c ((b-i).toNat-1) (i+(item p i).2.2.1)=kN p (i+(item p i).2.2.1) b c:=zOq _ _ _ _ _ _ (by omega) (by omega)
   rw [← e]
   unfold kN
   rw [show (b-i).toNat=(b-i).toNat-1+1 by omega];simp only [inC]
   rw [if_neg h,if_neg h0]
   rfl
def zA7 (p:ByteArray) (a b:Int) (no:Bool) (n:Nat):List UInt8:=((List.range n).filter fun c:Nat=>kN p a b (c:Int) != no).map UInt8.ofNat
def all (p:ByteArray) (a b:Int) (no:Bool):List UInt8:=zA7 p a b no 256
def number (p:ByteArray) (i:Int):Int × Int :=
 if atB p i<48∨57<atB p i then (0,0)
 else if atB p (i+1)<48∨57<atB p (i+1) then (atB p i-48,1)
 else (10*(atB p i-48)+atB p (i+1)-48,2)
theorem zHQ (p:ByteArray) (i:Int) :
  (decide (atB p i<48)=true∧number p i=(0,0))∨(decide (atB p i<48)=false∧decide (57<atB p i)=true∧number p i=(0,0)) ∨
  (48≤atB p i∧atB p i≤57∧decide (atB p i<48)=false∧decide (57<atB p i)=false ∧
   (
   (decide (atB p (i+1)<48)=true∧number p i=(atB p i-48,1)) ∨
   (decide (atB p (i+1)<48)=false∧decide (57<atB p (i+1))=true∧number p i=(atB p i-48,1)) ∨
   (48≤atB p (i+1)∧atB p (i+1)≤57∧decide (atB p (i+1)<48)=false∧decide (57<atB p (i+1))=false∧number p i=(10*(atB p i-48)+atB p (i+1)-48,2)))):=by
 unfold number
 generalize atB p i=c
 generalize atB p (i+1)=d
 simp only [decide_eq_true_eq,decide_eq_false_iff_not]
 by_cases h1:c<48∨57<c
 ·rw [if_pos h1];simp;omega
 ·rw [if_neg h1]
  by_cases h2:d<48∨57<d
  ·rw [if_pos h2];simp;omega
  ·rw [if_neg h2];simp;omega
theorem vY (p:ByteArray) (i:Int):0≤(number p i).1∧(number p i).1≤99∧0≤(number p i).2∧(number p i).2≤2:=by
 unfold number
 split
 ·simp
 ·split
  ·simp only;omega
  ·simp only;omega
def count (p:ByteArray) (i:Int):Int × Int × Int × Bool :=
 if (number p (i+1)).2=0∨20<(number p (i+1)).1 then (0,0,0,false)
 else if atB p (i+1+(number p (i+1)).2)=125 then ((number p (i+1)).1,(number p (i+1)).1,i+1+(number p (i+1)).2+1,true)
 else if atB p (i+1+(number p (i+1)).2)≠44 then (0,0,0,false)
 else if atB p (i+1+(number p (i+1)).2+1)=125 then ((number p (i+1)).1,-1,i+1+(number p (i+1)).2+2,true)
 else if (number p (i+1+(number p (i+1)).2+1)).2=0∨20<(number p (i+1+(number p (i+1)).2+1)).1∨(number p (i+1+(number p (i+1)).2+1)).1<(number p (i+1)).1 ∨
   atB p (i+1+(number p (i+1)).2+1+(number p (i+1+(number p (i+1)).2+1)).2)≠125 then (0,0,0,false)
 else ((number p (i+1)).1,(number p (i+1+(number p (i+1)).2+1)).1,i+1+(number p (i+1)).2+2+(number p (i+1+(number p (i+1)).2+1)).2,true)
theorem zE0 (p:ByteArray) (i:Int) :
  (((number p (i+1)).2==0)=true∧count p i=(0,0,0,false)) ∨
  (((number p (i+1)).2==0)=false∧decide (20<(number p (i+1)).1)=true∧count p i=(0,0,0,false)) ∨
  ((
   (number p (i+1)).2==0)=false∧decide (20<(number p (i+1)).1)=false ∧
   (
   ((atB p (i+1+(number p (i+1)).2)==125)=true∧count p i=((number p (i+1)).1,(number p (i+1)).1,i+1+(number p (i+1)).2+1,true)) ∨
   ((atB p (i+1+(number p (i+1)).2)==125)=false∧(atB p (i+1+(number p (i+1)).2) != 44)=true∧count p i=(0,0,0,false)) ∨
   ((
    atB p (i+1+(number p (i+1)).2)==125)=false∧(atB p (i+1+(number p (i+1)).2) != 44)=false ∧
    (
     ((atB p (i+1+(number p (i+1)).2+1)==125)=true∧count p i=((number p (i+1)).1,-1,i+1+(number p (i+1)).2+2,true)) ∨
     ((
      atB p (i+1+(number p (i+1)).2+1)==125)=false ∧
      (
      (((number p (i+1+(number p (i+1)).2+1)).2==0)=true∧count p i=(0,0,0,false)) ∨
      (((number p (i+1+(number p (i+1)).2+1)).2==0)=false∧decide (20<(number p (i+1+(number p (i+1)).2+1)).1)=true∧count p i=(0,0,0,false)) ∨
      (((number p (i+1+(number p (i+1)).2+1)).2==0)=false∧decide (20<(number p (i+1+(number p (i+1)).2+1)).1)=false∧decide ((number p (i+1+(number p (i+1)).2+1)).1<(number p (i+1)).1)=true∧count p i=(0,0,0,false)) ∨
      ((
       (number p (i+1+(number p (i+1)).2+1)).2==0)=false∧decide (20<(number p (i+1+(number p (i+1)).2+1)).1)=false∧decide ((number p (i+1+(number p (i+1)).2+1)).1<(number p (i+1)).1)=false ∧
       (atB p (i+1+(number p (i+1)).2+1+(number p (i+1+(number p (i+1)).2+1)).2) != 125)=true∧count p i=(0,0,0,false)) ∨
      ((
       (number p (i+1+(number p (i+1)).2+1)).2==0)=false∧decide (20<(number p (i+1+(number p (i+1)).2+1)).1)=false∧decide ((number p (i+1+(number p (i+1)).2+1)).1<(number p (i+1)).1)=false ∧
       (atB p (i+1+(number p (i+1)).2+1+(number p (i+1+(number p (i+1)).2+1)).2) != 125)=false ∧
       count p i=((number p (i+1)).1,(number p (i+1+(number p (i+1)).2+1)).1,i+1+(number p (i+1)).2+2+(number p (i+1+(number p (i+1)).2+1)).2,true)))))))):=by
 unfold count
 generalize atB p (i+1+(number p (i+1)).2+1+(number p (i+1+(number p (i+1)).2+1)).2)=z
 generalize number p (i+1+(number p (i+1)).2+1)=y
 generalize atB p (i+1+(number p (i+1)).2+1)=d
 generalize atB p (i+1+(number p (i+1)).2)=c
 generalize number p (i+1)=x
 simp only [decide_eq_true_eq,decide_eq_false_iff_not,beq_iff_eq,beq_eq_false_iff_ne,bne_iff_ne,bne_eq_false_iff_eq]
 by_cases h1:x.2=0∨20<x.1
 ·rw [if_pos h1];simp;omega
 ·rw [if_neg h1]
  by_cases h2:c=125
  ·rw [if_pos h2];simp;omega
  ·rw [if_neg h2]
   by_cases h3:c≠44
   ·rw [if_pos h3];simp;omega
   ·rw [if_neg h3]
    by_cases h4:d=125
    ·rw [if_pos h4];simp;omega
    ·rw [if_neg h4]
     by_cases h5:y.2=0∨20<y.1∨y.1<x.1∨z≠125
     ·rw [if_pos h5];simp;omega
     ·rw [if_neg h5];simp;omega
theorem zOr (p:ByteArray) (i:Int) (h0:0≤i):0≤(count p i).1∧(count p i).1≤20∧-1≤(count p i).2.1∧(count p i).2.1≤20∧0≤(count p i).2.2.1∧(count p i).2.2.1≤i+7:=by
 have b1:=vY p (i+1)
 have b2:=vY p (i+1+(number p (i+1)).2+1)
 unfold count
 split
 ·simp;omega
 ·split
  ·simp only;omega
  ·split
   ·simp;omega
   ·split
    ·simp only;omega
    ·split
     ·simp;omega
     ·simp only;omega
structure Tok where
 kind:Int
 frm:Int
 to:Int
 n:Int
 m:Int
 how:Int
 set:List UInt8
def opening (p:ByteArray) (i:Int):Tok × Bool :=
 if atB p (i+1)≠63 then (⟨6,i,i+1,0,0,4,[]⟩,true)
 else if atB p (i+2)=58 then (⟨6,i,i+3,0,0,3,[]⟩,true)
 else if atB p (i+2)=62 then (⟨6,i,i+3,0,0,0,[]⟩,true)
 else if atB p (i+2)=61 then (⟨6,i,i+3,0,0,1,[]⟩,true)
 else if atB p (i+2)=33 then (⟨6,i,i+3,0,0,2,[]⟩,true)
 else (⟨6,i,i+3,0,0,4,[]⟩,false)
theorem zA8 (p:ByteArray) (i:Int) :
  ((atB p (i+1) != 63)=true∧opening p i=(⟨6,i,i+1,0,0,4,[]⟩,true)) ∨
  ((
   atB p (i+1) != 63)=false ∧
   (
   ((atB p (i+2)==58)=true∧opening p i=(⟨6,i,i+3,0,0,3,[]⟩,true)) ∨
   ((atB p (i+2)==58)=false∧(atB p (i+2)==62)=true∧opening p i=(⟨6,i,i+3,0,0,0,[]⟩,true)) ∨
   ((atB p (i+2)==58)=false∧(atB p (i+2)==62)=false∧(atB p (i+2)==61)=true∧opening p i=(⟨6,i,i+3,0,0,1,[]⟩,true)) ∨
   ((atB p (i+2)==58)=false∧(atB p (i+2)==62)=false∧(atB p (i+2)==61)=false∧(atB p (i+2)==33)=true∧opening p i=(⟨6,i,i+3,0,0,2,[]⟩,true)) ∨
   ((atB p (i+2)==58)=false∧(atB p (i+2)==62)=false∧(atB p (i+2)==61)=false∧(atB p (i+2)==33)=false∧opening p i=(⟨6,i,i+3,0,0,4,[]⟩,false)))):=by
 unfold opening
 generalize atB p (i+1)=c
 generalize atB p (i+2)=d
 simp only [beq_iff_eq,beq_eq_false_iff_ne,bne_iff_ne,bne_eq_false_iff_eq]
 by_cases h1:c≠63
 ·rw [if_pos h1];simp;omega
 ·rw [if_neg h1]
  by_cases h2:d=58
  ·rw [if_pos h2];simp;omega
  ·rw [if_neg h2]
   by_cases h3:d=62
   ·rw [if_pos h3];simp;omega
   ·rw [if_neg h3]
    by_cases h4:d=61
    ·rw [if_pos h4];simp;omega
    ·rw [if_neg h4]
     by_cases h5:d=33
     ·rw [if_pos h5];simp;omega
     ·rw [if_neg h5];simp;omega
def escape (p:ByteArray) (i:Int):Tok × Bool :=
 if atB p (i+1)<0 then (⟨1,i,i+2,0,0,0,[]⟩,false)
 else if atB p (i+1)=100∨atB p (i+1)=119 then (⟨1,i,i+2,0,0,0,all p i (i+2) false⟩,true)
 else if 49≤atB p (i+1)∧atB p (i+1)≤57 then (⟨2,i,i+2,atB p (i+1)-48,0,0,[]⟩,true)
 else (⟨1,i,i+2,0,0,0,[UInt8.ofNat (atB p (i+1)).toNat]⟩,!zC2 (atB p (i+1))&&!zCY (atB p (i+1)))
theorem zCm (p:ByteArray) (i:Int) :
  (decide (atB p (i+1)<0)=true∧escape p i=(⟨1,i,i+2,0,0,0,[]⟩,false)) ∨
  (0≤atB p (i+1)∧decide (atB p (i+1)<0)=false ∧
   (
   ((atB p (i+1)==100)=true∧escape p i=(⟨1,i,i+2,0,0,0,all p i (i+2) false⟩,true)) ∨
   ((atB p (i+1)==100)=false∧(atB p (i+1)==119)=true∧escape p i=(⟨1,i,i+2,0,0,0,all p i (i+2) false⟩,true)) ∨
   ((atB p (i+1)==100)=false∧(atB p (i+1)==119)=false∧49≤atB p (i+1)∧atB p (i+1)≤57∧decide (49≤atB p (i+1))=true∧decide (atB p (i+1)≤57)=true∧escape p i=(⟨2,i,i+2,atB p (i+1)-48,0,0,[]⟩,true)) ∨
   ((
    atB p (i+1)==100)=false∧(atB p (i+1)==119)=false∧(decide (49≤atB p (i+1))=false∨decide (49≤atB p (i+1))=true∧decide (atB p (i+1)≤57)=false) ∧
    escape p i=(⟨1,i,i+2,0,0,0,[UInt8.ofNat (atB p (i+1)).toNat]⟩,!zC2 (atB p (i+1))&&!zCY (atB p (i+1)))))):=by
 unfold escape
 generalize atB p (i+1)=c
 simp only [beq_iff_eq,beq_eq_false_iff_ne,decide_eq_true_eq,decide_eq_false_iff_not]
 by_cases h1:c<0
 ·rw [if_pos h1];simp;omega
 ·rw [if_neg h1]
  by_cases h2:c=100∨c=119
  ·rw [if_pos h2];simp;omega
  ·rw [if_neg h2]
   by_cases h3:49≤c∧c≤57
   ·rw [if_pos h3];simp;omega
   ·rw [if_neg h3];simp;omega
def xW (p:ByteArray) (t:Int):Int × Int:=if atB p t=63 then (1,t+1) else if atB p t=43 then (2,t+1) else (0,t)
def kJ (p:ByteArray) (i:Int):Tok × Bool :=
 if atB p i=43 then (⟨8,i,(xW p (i+1)).2,1,-1,(xW p (i+1)).1,[]⟩,true)
 else if atB p i=63 then (⟨8,i,(xW p (i+1)).2,0,1,(xW p (i+1)).1,[]⟩,true)
 else if atB p i=123 then
  (if (count p i).2.2.2 then (⟨8,i,(xW p (count p i).2.2.1).2,(count p i).1,(count p i).2.1,(xW p (count p i).2.2.1).1,[]⟩,true) else (⟨8,i,i+1,0,-1,0,[]⟩,false))
 else (⟨8,i,(xW p (i+1)).2,0,-1,(xW p (i+1)).1,[]⟩,true)
def zAq (p:ByteArray):Nat→Int→Int
 | 0,_=>-1
 | f+1,b =>
  if (p.size:Int)≤b then -1
  else if atB p b=93 then b
  else if (item p b).2.2.1=0 then -1
  else zAq p f (b+(item p b).2.2.1)
theorem zGR (p:ByteArray):∀ (f g:Nat) (b:Int),(p.size:Int)-b<f→(p.size:Int)-b<g→zAq p f b=zAq p g b:=by
 intro f
 induction f with
 | zero =>
  intro g b hf hg
  cases g with
  | zero=>rfl
  | succ g=>simp only [zAq];rw [if_pos (by omega)]
 | succ f ih =>
  intro g b hf hg
  cases g with
  | zero=>simp only [zAq];rw [if_pos (by omega)]
  | succ g =>
   simp only [zAq]
   have hb:=zBy p b
   by_cases h0:(item p b).2.2.1=0
   ·simp [h0]
   ·by_cases h1:(p.size:Int)≤b
    ·simp [h1]
    ·rw [ih g (b+(item p b).2.2.1) (by omega) (by omega)]
def zR (p:ByteArray) (b:Int):Int:=zAq p ((p.size:Int)-b+1).toNat b
theorem yR (p:ByteArray) (b:Int):zR p b =
  if (p.size:Int)≤b then -1
  else if atB p b=93 then b
  else if (item p b).2.2.1=0 then -1
  else zR p (b+(item p b).2.2.1):=by
 have hb:=zBy p b
 by_cases h:(p.size:Int)≤b
 ·rw [if_pos h];unfold zR
  generalize ((p.size:Int)-b+1).toNat=f
  cases f with
  | zero=>rfl
  | succ f=>simp only [zAq];rw [if_pos h]
 ·rw [if_neg h]
  by_cases h1:atB p b=93
  ·rw [if_pos h1];unfold zR
   rw [show ((p.size:Int)-b+1).toNat=((p.size:Int)-b).toNat+1 by omega];simp only [zAq]
   rw [if_neg h,if_pos h1]
  ·rw [if_neg h1]
   by_cases h0:(item p b).2.2.1=0
   ·rw [if_pos h0];unfold zR
    rw [show ((p.size:Int)-b+1).toNat=((p.size:Int)-b).toNat+1 by omega];simp only [zAq]
    rw [if_neg h,if_neg h1,if_pos h0]
   ·rw [if_neg h0]
    unfold zR
    rw [show ((p.size:Int)-b+1).toNat=((p.size:Int)-b).toNat+1 by omega];simp only [zAq]
    rw [if_neg h,if_neg h1,if_neg h0]
    exact zGR _ _ _ _ (by omega) (by omega)
theorem zEj (p:ByteArray):∀ (f:Nat) (b:Int),(p.size:Int)-b<f→0≤b→zR p b=-1∨(b≤zR p b∧zR p b<(p.size:Int)):=by
 intro f
 induction f with
 | zero=>intro b h hb;rw [yR,if_pos (by omega)];simp
 | succ f ih =>
  intro b h hb
  have hi:=zBy p b
  rw [yR]
  by_cases h1:(p.size:Int)≤b
  ·simp [h1]
  ·rw [if_neg h1]
   by_cases h2:atB p b=93
   ·rw [if_pos h2];omega
   ·rw [if_neg h2]
    by_cases h3:(item p b).2.2.1=0
    ·simp [h3]
    ·rw [if_neg h3]
     have:=ih (b+(item p b).2.2.1) (by omega) (by omega)
     omega
def yM (p:ByteArray) (i:Int):Int:=if atB p (i+1)=94 then i+2 else i+1
def jN (p:ByteArray) (i:Int):Tok × Bool :=
 if zR p (yM p i)=-1∨zR p (yM p i)=yM p i then (⟨0,0,0,0,0,0,[]⟩,false)
 else (⟨1,i,zR p (yM p i)+1,0,0,0,all p (yM p i) (zR p (yM p i)) (decide (atB p (i+1)=94))⟩,true)
def kK (p:ByteArray) (i:Int):Tok × Int :=
 if atB p i=124 then (⟨5,i,i+1,0,0,0,[]⟩,0)
 else if atB p i=41 then (⟨7,i,i+1,0,0,0,[]⟩,0)
 else if atB p i=94 then (⟨3,i,i+1,0,0,0,[]⟩,0)
 else if atB p i=36 then (⟨4,i,i+1,0,0,0,[]⟩,0)
 else if atB p i=92 then ((escape p i).1,if (escape p i).2 then 0 else 2)
 else if atB p i=91 then ((jN p i).1,if (jN p i).2 then 0 else 3)
 else if atB p i=40 then ((opening p i).1,if (opening p i).2 then 0 else 5)
 else if atB p i=42∨atB p i=43∨atB p i=63∨atB p i=123 then ((kJ p i).1,if (kJ p i).2 then 0 else 4)
 else if atB p i=46 then (⟨1,i,i+1,0,0,0,all p i i true⟩,0)
 else (⟨1,i,i+1,0,0,0,[UInt8.ofNat (atB p i).toNat]⟩,0)
def jA:Tok:=⟨0,0,0,0,0,0,[]⟩
def delta (t:Tok):Int:=if t.kind=6 then 1 else if t.kind=7 then -1 else 0
def opened:List Tok→Int
 | []=>0
 | t::r=>delta t+opened r
theorem qW (a b:List Tok):opened (a++b)=opened a+opened b:=by
 induction a with
 | nil=>simp [opened]
 | cons t r ih=>simp only [List.cons_append,opened,ih];omega
theorem zE1 (l:List Tok) (k:Nat) (h:k<l.length):l.take (k+1)=l.take k++[l.getD k jA]:=by
 rw [List.take_succ_eq_append_getElem h,List.getD_eq_getElem?_getD,List.getElem?_eq_getElem h];rfl
theorem zE2 (l:List Tok) (k:Nat) (h:k<l.length):opened (l.take (k+1))=opened (l.take k)+delta (l.getD k jA):=by
 rw [zE1 l k h,qW];simp [opened]
theorem zOs (t:Tok):-1≤delta t∧delta t≤1:=by
 unfold delta
 split
 ·omega
 ·split <;> omega
theorem zDr (l:List Tok):-(l.length:Int)≤opened l∧opened l≤l.length:=by
 induction l with
 | nil=>simp [opened]
 | cons t r ih=>have:=zOs t;simp only [opened,List.length_cons];omega
theorem zF1 (l:List Tok) (k:Nat):-(k:Int)≤opened (l.take k)∧opened (l.take k)≤k:=by
 have:=zDr (l.take k)
 have h2:(l.take k).length≤k:=List.length_take_le _ _
 omega
def kP (t:Tok):Bool:=decide (t.kind=6∧t.how=4)
def captures:List Tok→Int
 | []=>0
 | t::r=>(if kP t then 1 else 0)+captures r
theorem zAr (a b:List Tok):captures (a++b)=captures a+captures b:=by
 induction a with
 | nil=>simp [captures]
 | cons t r ih=>simp only [List.cons_append,captures,ih];omega
theorem zA9 (l:List Tok) (k:Nat) (h:k<l.length):captures (l.take (k+1))=captures (l.take k)+if kP (l.getD k jA) then 1 else 0:=by
 rw [zE1 l k h,zAr];simp [captures]
theorem zAd (l:List Tok):0≤captures l∧captures l≤l.length:=by
 induction l with
 | nil=>simp [captures]
 | cons t r ih=>simp only [captures,List.length_cons];split <;> omega
theorem zEC (l:List Tok) (k:Nat):0≤captures (l.take k)∧captures (l.take k)≤k:=by
 have:=zAd (l.take k)
 have h2:(l.take k).length≤k:=List.length_take_le _ _
 omega
def kE:List Tok→Int→Nat→Nat
 | [],_,j=>j
 | t::r,n,j=>if n+delta t=0 then j else kE r (n+delta t) (j+1)
def closing (l:List Tok) (i:Nat):Nat:=kE (l.drop i) 0 i
theorem zDs (l:List Tok) (k:Nat) (h:k<l.length):l.drop k=l.getD k jA::l.drop (k+1):=by
 rw [List.drop_eq_getElem_cons h,List.getD_eq_getElem?_getD,List.getElem?_eq_getElem h];rfl
theorem zHR:∀ (l:List Tok) (n:Int) (j:Nat),kE l n j≤j+l.length:=by
 intro l
 induction l with
 | nil=>intro n j;simp [kE]
 | cons t r ih =>
  intro n j
  simp only [kE,List.length_cons]
  split
  ·omega
  ·have:=ih (n+delta t) (j+1);omega
theorem zHS:∀ (l:List Tok) (n:Int) (j:Nat),j≤kE l n j:=by
 intro l
 induction l with
 | nil=>intro n j;simp [kE]
 | cons t r ih =>
  intro n j
  simp only [kE]
  split
  ·omega
  ·have:=ih (n+delta t) (j+1);omega
theorem zDT (l:List Tok) (i:Nat) (h:i≤l.length):closing l i≤l.length:=by
 have:=zHR (l.drop i) 0 i
 rw [List.length_drop] at this
 unfold closing;omega
theorem zBd (l:List Tok) (i:Nat):i≤closing l i:=zHS _ _ _
def qQ (l:List Tok) (k:Int):List Tok→Nat→Bool
 | [],_=>false
 | t::r,j=>if kP t=true∧t.n=k then decide (closing l j<l.length) else qQ l k r (j+1)
def closed (l:List Tok) (k:Int):Bool:=qQ l k l 0
def yN (l:List Tok):Bool :=
 match l.getLast? with
 | none=>false
 | some t=>decide (t.kind=1∨t.kind=2∨t.kind=3∨t.kind=4∨t.kind=7)
def may (l:List Tok) (t:Tok):Int :=
 if t.kind=2 then (if closed l t.n then 0 else 6)
 else if t.kind=8 then (if yN l then 0 else 7)
 else if t.kind=6 then (if 10≤opened l then 8 else if t.how=4∧9≤captures l then 9 else 0)
 else if t.kind=7 then (if opened l=0 then 10 else 0)
 else 0
def joined (l:List Tok) (t:Tok):Tok:=if kP t then { t with n:=captures l+1 } else t
def zAs (p:ByteArray):Nat→List Tok→Int→List Tok × Int × Int
 | 0,l,i=>(l,0,i)
 | f+1,l,i =>
  if (p.size:Int)≤i then (l,0,i)
  else if (kK p i).2≠0 then ([],(kK p i).2,i)
  else if may l (kK p i).1≠0 then ([],may l (kK p i).1,i)
  else zAs p f (l++[joined l (kK p i).1]) (kK p i).1.to
def tokens (p:ByteArray):List Tok × Int × Int :=
 if 64<p.size then ([],1,0)
 else if (zAs p 65 [] 0).2.1≠0 then zAs p 65 [] 0
 else if 0<opened (zAs p 65 [] 0).1 then ([],11,p.size)
 else ((zAs p 65 [] 0).1,0,0)
theorem zF2 (l:List Tok) (n:Int) (k:Nat) (h:k<l.length):kE (l.drop k) n k=if n+delta (l.getD k jA)=0 then k else kE (l.drop (k+1)) (n+delta (l.getD k jA)) (k+1):=by
 rw [zDs l k h];rfl
theorem zCn (l:List Tok) (c:Int) (k:Nat) (h:k<l.length):qQ l c (l.drop k) k=if kP (l.getD k jA)=true∧(l.getD k jA).n=c then decide (closing l k<l.length) else qQ l c (l.drop (k+1)) (k+1):=by
 rw [zDs l k h];rfl
theorem zOt (p:ByteArray) (i:Int) (h0:0≤i) (h:(count p i).2.2.2=true):i<(count p i).2.2.1∧(count p i).2.2.1≤p.size:=by
 have b1:=vY p (i+1)
 have b2:=vY p (i+1+(number p (i+1)).2+1)
 unfold count at h ⊢
 split at h
 ·simp at h
 ·rename_i h1
  split at h
  ·rename_i h2
   rw [if_neg h1,if_pos h2]
   have:=zCg p (i+1+(number p (i+1)).2) (by omega)
   simp only;omega
  ·rename_i h2
   split at h
   ·simp at h
   ·rename_i h3
    split at h
    ·rename_i h4
     rw [if_neg h1,if_neg h2,if_neg h3,if_pos h4]
     have:=zCg p (i+1+(number p (i+1)).2+1) (by omega)
     simp only;omega
    ·rename_i h4
     split at h
     ·simp at h
     ·rename_i h5
      rw [if_neg h1,if_neg h2,if_neg h3,if_neg h4,if_neg h5]
      have:=zCg p (i+1+(number p (i+1)).2+1+(number p (i+1+(number p (i+1)).2+1)).2) (by omega)
      simp only;omega
theorem zMf (p:ByteArray) (t:Int) (h0:0≤t) (h:t≤p.size):t≤(xW p t).2∧(xW p t).2≤p.size:=by
 unfold xW
 split
 ·have:=zCg p t (by omega);simp only;omega
 ·split
  ·have:=zCg p t (by omega);simp only;omega
  ·simp only;omega
theorem zMg (p:ByteArray) (i:Int) (h0:0≤i) (h1:i<p.size) (h:(kJ p i).2=true):i<(kJ p i).1.to∧(kJ p i).1.to≤p.size:=by
 have m1:=zMf p (i+1) (by omega) (by omega)
 unfold kJ at h ⊢
 split
 ·simp only;omega
 ·split
  ·simp only;omega
  ·split
   ·rename_i a b c
    rw [if_neg a,if_neg b,if_pos c] at h
    split at h
    ·rename_i d
     have k:=zOt p i h0 d
     have m2:=zMf p (count p i).2.2.1 (by omega) (by omega)
     rw [if_pos d]
     simp only;omega
    ·simp at h
   ·simp only;omega
theorem zKZ (p:ByteArray) (i:Int) (h0:0≤i) (h1:i<p.size) (h:(opening p i).2=true):i<(opening p i).1.to∧(opening p i).1.to≤p.size:=by
 rcases zA8 p i with ⟨a1,e⟩ | ⟨a1,⟨a2,e⟩ | ⟨a2,a3,e⟩ | ⟨a2,a3,a4,e⟩ | ⟨a2,a3,a4,a5,e⟩ | ⟨a2,a3,a4,a5,e⟩⟩
 ·rw [e];simp only;omega
 ·rw [e];have:=zCg p (i+2) (by rw [eq_of_beq a2];omega);simp only;omega
 ·rw [e];have:=zCg p (i+2) (by rw [eq_of_beq a3];omega);simp only;omega
 ·rw [e];have:=zCg p (i+2) (by rw [eq_of_beq a4];omega);simp only;omega
 ·rw [e];have:=zCg p (i+2) (by rw [eq_of_beq a5];omega);simp only;omega
 ·rw [e] at h;simp at h
theorem zMh (p:ByteArray) (i:Int) (h0:0≤i) (h1:i<p.size) (h:(escape p i).2=true):i<(escape p i).1.to∧(escape p i).1.to≤p.size:=by
 rcases zCm p i with ⟨a1,e⟩ | ⟨a0,a1,⟨a2,e⟩ | ⟨a2,a3,e⟩ | ⟨a2,a3,a4,a5,a6,a7,e⟩ | ⟨a2,a3,a4,e⟩⟩
 ·rw [e] at h;simp at h
 all_goals
  rw [e];have:=zCg p (i+1) a0;simp only;omega
theorem zOu (p:ByteArray) (i:Int) (h0:0≤i) (h1:i<p.size) (h:(jN p i).2=true):i<(jN p i).1.to∧(jN p i).1.to≤p.size:=by
 have ha:i+1≤yM p i:=by unfold yM;split <;> omega
 have hb:=zEj p ((p.size:Int)-yM p i+1).toNat (yM p i) (by omega) (by omega)
 unfold jN at h ⊢
 split at h
 ·simp at h
 ·rename_i g
  rw [if_neg g]
  simp only;omega
theorem zBR (p:ByteArray) (i:Int) (h0:0≤i) (h1:i<p.size) (h:(kK p i).2=0):i<(kK p i).1.to∧(kK p i).1.to≤p.size:=by
 unfold kK at h ⊢
 split
 ·simp only;omega
 split
 ·simp only;omega
 split
 ·simp only;omega
 split
 ·simp only;omega
 split
 ·rename_i a b c d e
  rw [if_neg a,if_neg b,if_neg c,if_neg d,if_pos e] at h
  exact zMh p i h0 h1 (by cases x:(escape p i).2 <;> simp [x] at h ⊢)
 split
 ·rename_i a b c d e f
  rw [if_neg a,if_neg b,if_neg c,if_neg d,if_neg e,if_pos f] at h
  exact zOu p i h0 h1 (by cases x:(jN p i).2 <;> simp [x] at h ⊢)
 split
 ·rename_i a b c d e f g
  rw [if_neg a,if_neg b,if_neg c,if_neg d,if_neg e,if_neg f,if_pos g] at h
  exact zKZ p i h0 h1 (by cases x:(opening p i).2 <;> simp [x] at h ⊢)
 split
 ·rename_i a b c d e f g k
  rw [if_neg a,if_neg b,if_neg c,if_neg d,if_neg e,if_neg f,if_neg g,if_pos k] at h
  exact zMg p i h0 h1 (by cases x:(kJ p i).2 <;> simp [x] at h ⊢)
 split
 ·simp only;omega
 ·simp only;omega
def qD (p:ByteArray) (l:List Tok) (i:Int):List Tok × Int × Int:=zAs p ((p.size:Int)-i+1).toNat l i
theorem zDt (p:ByteArray):∀ (f g:Nat) (l:List Tok) (i:Int),0≤i→(p.size:Int)-i<f→(p.size:Int)-i<g→i≤p.size→zAs p f l i=zAs p g l i:=by
 intro f
 induction f with
 | zero =>
  intro g l i h0 hf hg hi
  omega
 | succ f ih =>
  intro g l i h0 hf hg hi
  cases g with
  | zero=>omega
  | succ g =>
   simp only [zAs]
   by_cases h1:(p.size:Int)≤i
   ·rw [if_pos h1,if_pos h1]
   ·rw [if_neg h1,if_neg h1]
    by_cases h2:(kK p i).2≠0
    ·rw [if_pos h2,if_pos h2]
    ·rw [if_neg h2,if_neg h2]
     have:=zBR p i h0 (by omega) (by omega)
     split
     ·rfl
     ·exact ih g _ _ (by omega) (by omega) (by omega) (by omega)
theorem vH (p:ByteArray) (l:List Tok) (i:Int) (h0:0≤i) (hi:i≤p.size):qD p l i =
  if (p.size:Int)≤i then (l,0,i)
  else if (kK p i).2≠0 then ([],(kK p i).2,i)
  else if may l (kK p i).1≠0 then ([],may l (kK p i).1,i)
  else qD p (l++[joined l (kK p i).1]) (kK p i).1.to:=by
 unfold qD
 rw [show ((p.size:Int)-i+1).toNat=((p.size:Int)-i).toNat+1 by omega]
 simp only [zAs]
 by_cases h1:(p.size:Int)≤i
 ·rw [if_pos h1,if_pos h1]
 ·rw [if_neg h1,if_neg h1]
  by_cases h2:(kK p i).2≠0
  ·rw [if_pos h2,if_pos h2]
  ·rw [if_neg h2,if_neg h2]
   have:=zBR p i h0 (by omega) (by omega)
   split
   ·rfl
   ·exact zDt p _ _ _ _ (by omega) (by omega) (by omega) (by omega)
theorem vF (p:ByteArray) (h:p.size≤64):zAs p 65 [] 0=qD p [] 0:=zDt p _ _ _ _ (by omega) (by omega) (by omega) (by omega)
structure Ins where
 op:Int
 x:Int
 y:Int
 set:List UInt8
def jB:Ins:=⟨0,0,0,[]⟩
def zAh (i:Ins) (by':Int):Ins :=
 if i.op=2 then ⟨i.op,i.x+by',i.y+by',i.set⟩
 else if i.op=3∨i.op=5 then ⟨i.op,i.x+by',i.y,i.set⟩
 else if i.op=11 then ⟨i.op,i.x,i.y+by',i.set⟩
 else i
def moved (c:List Ins) (by':Int):List Ins:=c.map fun i=>zAh i by'
theorem jY (c:List Ins) (n:Int):(moved c n).length=c.length:=by simp [moved]
def behind (a b:List Ins):List Ins:=if 300<a.length then a else a++moved b a.length
def jM (x y:Int) (late:Bool):List Ins:=if late then [⟨2,y,x,[]⟩] else [⟨2,x,y,[]⟩]
def zJc (M:Int) (i:Ins):Prop:=-M≤i.x∧i.x≤M∧-M≤i.y∧i.y≤M
def fit (M:Int) (c:List Ins):Prop:=(c.length:Int)≤M∧∀ i∈c,zJc M i
theorem vO {M N:Int} {i:Ins} (h:zJc M i) (hn:M≤N):zJc N i:=by unfold zJc at *;omega
theorem zI {M N:Int} {c:List Ins} (h:fit M c) (hn:M≤N):fit N c:=⟨by have:=h.1;omega,fun i hi=>vO (h.2 i hi) hn⟩
theorem zA0 {M:Int} {i:Ins} (h:zJc M i) (h1:1≤M):fit M [i]:=⟨by simpa using h1,fun j hj=>by simp at hj;rw [hj];exact h⟩
theorem zAe {M:Int} (h:0≤M):fit M []:=⟨by simpa using h,fun j hj=>by simp at hj⟩
theorem zDU {M n:Int} {i:Ins} (h:zJc M i) (h0:0≤n) (hn:n≤300):zJc (M+300) (zAh i n):=by
 unfold zJc at *
 unfold zAh
 split
 ·simp only;omega
 ·split
  ·simp only;omega
  ·split
   ·simp only;omega
   ·omega
theorem yI {M:Int} {a b:List Ins} (ha:fit M a) (hb:fit M b):fit (M+300) (behind a b):=by
 unfold behind
 by_cases h:300<a.length
 ·rw [if_pos h];exact zI ha (by omega)
 ·rw [if_neg h]
  refine ⟨?_,fun i hi=>?_⟩
  ·rw [List.length_append,jY];have:=hb.1;omega
  ·rcases List.mem_append.1 hi with hi | hi
   ·exact vO (ha.2 i hi) (by omega)
   ·unfold moved at hi
    obtain ⟨j,hj,rfl⟩:=List.mem_map.1 hi
    exact zDU (hb.2 j hj) (by omega) (by omega)
def jZ (l:List Tok) (k:Nat):Int:=(l.getD k jA).kind
def zBS (l:List Tok) (b:Nat):Nat→Nat→Nat
 | 0,_=>b
 | f+1,i =>
  if b≤i then b
  else if jZ l i=5 then i
  else if jZ l i=6 then zBS l b f (closing l i+1)
  else zBS l b f (i+1)
theorem zEk (l:List Tok) (b:Nat):∀ (f g i:Nat),b-i≤f→b-i≤g→zBS l b f i=zBS l b g i:=by
 intro f
 induction f with
 | zero =>
  intro g i hf hg
  cases g with
  | zero=>rfl
  | succ g=>simp only [zBS];rw [if_pos (by omega)]
 | succ f ih =>
  intro g i hf hg
  cases g with
  | zero=>simp only [zBS];rw [if_pos (by omega)]
  | succ g =>
   simp only [zBS]
   by_cases h:b≤i
   ·rw [if_pos h,if_pos h]
   ·rw [if_neg h,if_neg h]
    have hc:=zBd l i
    rw [ih g (closing l i+1) (by omega) (by omega),ih g (i+1) (by omega) (by omega)]
def bar (l:List Tok) (a b:Nat):Nat:=zBS l b (b-a) a
theorem xH (l:List Tok) (i b:Nat):bar l i b =
  if b≤i then b else if jZ l i=5 then i else if jZ l i=6 then bar l (closing l i+1) b else bar l (i+1) b:=by
 have hc:=zBd l i
 by_cases h:b≤i
 ·rw [if_pos h];unfold bar;rw [show b-i=0 by omega];rfl
 ·rw [if_neg h];unfold bar
  rw [show b-i=(b-i-1)+1 by omega];simp only [zBS];rw [if_neg h]
  rw [zEk l b (b-i-1) (b-(closing l i+1)) (closing l i+1) (by omega) (by omega),zEk l b (b-i-1) (b-(i+1)) (i+1) (by omega) (by omega)]
theorem zRF (l:List Tok) (b:Nat):∀ f i,b-i≤f→bar l i b≤b:=by
 intro f
 induction f with
 | zero=>intro i h;rw [xH,if_pos (by omega)];omega
 | succ f ih =>
  intro i h
  have hc:=zBd l i
  rw [xH]
  by_cases h1:b≤i
  ·rw [if_pos h1];omega
  ·rw [if_neg h1]
   split
   ·omega
   ·split
    ·exact ih _ (by omega)
    ·exact ih _ (by omega)
theorem zRG (l:List Tok) (b:Nat):∀ f i,b-i≤f→bar l i b=b∨(i≤bar l i b∧bar l i b<b):=by
 intro f
 induction f with
 | zero=>intro i h;rw [xH,if_pos (by omega)];simp
 | succ f ih =>
  intro i h
  have hc:=zBd l i
  rw [xH]
  by_cases h1:b≤i
  ·rw [if_pos h1];simp
  ·rw [if_neg h1]
   split
   ·omega
   ·split
    ·have:=ih (closing l i+1) (by omega);omega
    ·have:=ih (i+1) (by omega);omega
def after (l:List Tok) (i:Nat):Nat:=if jZ l i=6 then closing l i+1 else i+1
theorem zOv (l:List Tok) (i:Nat):i<after l i:=by unfold after;have:=zBd l i;split <;> omega
theorem zOw (l:List Tok) (i:Nat) (h:i<l.length):after l i≤l.length+1:=by unfold after;have:=zDT l i (by omega);split <;> omega
def alone (sort:Int) (c:List Ins):List Ins:=behind (behind [⟨11,sort,c.length+2,[]⟩] c) [⟨12,0,0,[]⟩]
def vI (y:List Ins) (d:Int) (late:Bool):List Ins:=behind (behind (behind (jM 1 (y.length+3) late) [⟨4,d,0,[]⟩]) y) [⟨5,-y.length-2,d,[]⟩]
def vJ (x:List Ins) (late:Bool):Nat→List Ins→List Ins
 | 0,c=>c
 | n+1,c=>vJ x late n (behind c (behind (jM 1 (((n:Int)+1)*(x.length+1)) late) x))
def upTo (x:List Ins) (k:Nat) (late:Bool):List Ins:=vJ x late k []
def zC (x:List Ins):Nat→List Ins→List Ins
 | 0,c=>c
 | n+1,c=>zC x n (behind c x)
def yH (at' rp:Nat→Nat→List Ins) (l:List Tok) (b:Nat):Nat→Nat→List Ins→List Ins
 | 0,_,c=>c
 | f+1,i,c =>
  if b≤i then c
  else if after l i<b∧jZ l (after l i)=8 then yH at' rp l b f (after l i+1) (behind c (rp i (after l i)))
  else yH at' rp l b f (after l i) (behind c (at' i (after l i)))
def zED (n:Int):List Ins:=[⟨3,n,0,[]⟩]
def gen (l:List Tok):Nat→Nat→Nat→Nat→Int→List Ins
 | 0,_,_,_,_=>[]
 | f+1,0,a,b,d =>
  if bar l a b=b then gen l f 1 a (bar l a b) d
  else behind (behind (behind (jM 1 ((gen l f 1 a (bar l a b) d).length+2) false) (gen l f 1 a (bar l a b) d)) (zED (1+(gen l f 0 (bar l a b+1) b d).length))) (gen l f 0 (bar l a b+1) b d)
 | f+1,1,a,b,d=>yH (fun i j=>gen l f 2 i j d) (fun i j=>gen l f 3 i j d) l b (b-a) a []
 | f+1,2,a,b,d =>
  if jZ l a=1 then [⟨1,0,0,(l.getD a jA).set⟩]
  else if jZ l a=2 then [⟨8,(l.getD a jA).n,0,[]⟩]
  else if jZ l a=3 then [⟨9,0,0,[]⟩]
  else if jZ l a=4 then [⟨10,0,0,[]⟩]
  else if (l.getD a jA).how=3 then gen l f 0 (a+1) (b-1) d
  else if (l.getD a jA).how=4 then behind (behind [⟨6,(l.getD a jA).n,0,[]⟩] (gen l f 0 (a+1) (b-1) d)) [⟨7,(l.getD a jA).n,0,[]⟩]
  else alone (l.getD a jA).how (gen l f 0 (a+1) (b-1) d)
 | f+1,_+3,a,b,d =>
  let r:=l.getD b jA
  let c1:=if 0<r.n∨0<r.m then
    (if r.n<r.m then behind (zC (gen l f 2 a b d) r.n.toNat []) (upTo (gen l f 2 a b d) (r.m-r.n).toNat (decide (r.how=1))) else zC (gen l f 2 a b d) r.n.toNat [])
   else []
  let c2:=if r.m<0 then behind c1 (vI (gen l f 2 a b (d+1)) d (decide (r.how=1))) else c1
  if r.how=2 then alone 0 c2 else c2
def coded (l:List Tok):List Ins:=behind (gen l 283 0 0 l.length 0) [⟨13,0,0,[]⟩]
end Mt
