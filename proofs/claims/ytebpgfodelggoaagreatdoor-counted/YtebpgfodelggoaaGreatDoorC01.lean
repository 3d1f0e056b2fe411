import Derived.Below
set_option linter.unusedVariables false
set_option linter.unusedSimpArgs false
namespace Mt
def atB (p:ByteArray) (i:Int):Int:=if i<0∨(p.size:Int)≤i then -1 else ((p.data.toList.getD i.toNat 0).toNat:Int)
theorem atB_lo (p:ByteArray) (i:Int):-1≤atB p i:=by unfold atB;split <;> omega
theorem atB_hi (p:ByteArray) (i:Int):atB p i≤255:=by
 unfold atB;split
 ·omega
 ·have:=(p.data.toList.getD i.toNat 0).toNat_lt;omega
theorem atB_out (p:ByteArray) (i:Int) (h:i<0∨(p.size:Int)≤i):atB p i=-1:=by unfold atB;rw [if_pos h]
theorem atB_in (p:ByteArray) (i:Int) (h0:0≤i) (h:i<(p.size:Int)):atB p i=((p.data.toList.getD i.toNat 0).toNat:Int):=by
 unfold atB;rw [if_neg (by omega)]
theorem atB_ge (p:ByteArray) (i:Int) (h:0≤atB p i):0≤i∧i<(p.size:Int):=by
 unfold atB at h;split at h <;> omega
def digB (c:Int):Bool:=decide (48≤c∧c≤57)
def letB (c:Int):Bool:=decide ((97≤c∧c≤122)∨(65≤c∧c≤90))
def classByte (p:ByteArray) (i:Int):Int × Int :=
 if atB p i<0∨atB p i=93∨atB p i=45 then (0,0)
 else if atB p i≠92 then (atB p i,1)
 else if atB p (i+1)<0∨digB (atB p (i+1))=true∨letB (atB p (i+1))=true then (0,0)
 else (atB p (i+1),2)
theorem classByte_cases (p:ByteArray) (i:Int) :
  (decide (atB p i<0)=true∧classByte p i=(0,0)) ∨
  (0≤atB p i∧decide (atB p i<0)=false ∧
   (
   ((atB p i==93)=true∧classByte p i=(0,0)) ∨
   ((atB p i==93)=false∧(atB p i==45)=true∧classByte p i=(0,0)) ∨
   ((atB p i==93)=false∧(atB p i==45)=false∧(atB p i != 92)=true∧classByte p i=(atB p i,1)) ∨
   ((atB p i==93)=false∧(atB p i==45)=false∧(atB p i != 92)=false∧decide (atB p (i+1)<0)=true∧classByte p i=(0,0)) ∨
   ((atB p i==93)=false∧(atB p i==45)=false∧(atB p i != 92)=false∧0≤atB p (i+1)∧decide (atB p (i+1)<0)=false∧digB (atB p (i+1))=true∧classByte p i=(0,0)) ∨
   ((atB p i==93)=false∧(atB p i==45)=false∧(atB p i != 92)=false∧0≤atB p (i+1)∧decide (atB p (i+1)<0)=false∧digB (atB p (i+1))=false∧letB (atB p (i+1))=true∧classByte p i=(0,0)) ∨
   ((atB p i==93)=false∧(atB p i==45)=false∧(atB p i != 92)=false∧0≤atB p (i+1)∧decide (atB p (i+1)<0)=false∧digB (atB p (i+1))=false∧letB (atB p (i+1))=false∧classByte p i=(atB p (i+1),2)))):=by
 unfold classByte
 generalize atB p i=c
 generalize atB p (i+1)=d
 simp only [decide_eq_true_eq,decide_eq_false_iff_not,beq_iff_eq,beq_eq_false_iff_ne,bne_iff_ne,bne_eq_false_iff_eq]
 by_cases h1:c<0∨c=93∨c=45
 ·rw [if_pos h1];simp;omega
 ·rw [if_neg h1]
  by_cases h2:c≠92
  ·rw [if_pos h2];simp;omega
  ·rw [if_neg h2]
   cases h3:digB d <;> cases h4:letB d <;> simp <;> by_cases h5:d<0 <;> simp [h5] <;> omega
theorem classByte_bd (p:ByteArray) (i:Int):0≤(classByte p i).1∧(classByte p i).1≤255∧0≤(classByte p i).2∧(classByte p i).2≤2:=by
 have l1:=atB_hi p i
 have l2:=atB_hi p (i+1)
 unfold classByte
 split
 ·simp
 ·split
  ·simp only;omega
  ·split
   ·simp
   ·simp only;omega
def shortB (w:Bool) (c:Int):Bool:=digB c||(w&&(letB c||decide (c=95)))
def item (p:ByteArray) (i:Int):Int × Int × Int × Bool :=
 if atB p i=92∧(atB p (i+1)=100∨atB p (i+1)=119) then (92,atB p (i+1),2,true)
 else if (classByte p i).2=0 then (0,0,0,false)
 else if atB p (i+(classByte p i).2)≠45 then ((classByte p i).1,(classByte p i).1,(classByte p i).2,false)
 else if (classByte p (i+(classByte p i).2+1)).2=0∨(classByte p (i+(classByte p i).2+1)).1<(classByte p i).1 then (0,0,0,false)
 else ((classByte p i).1,(classByte p (i+(classByte p i).2+1)).1,(classByte p i).2+1+(classByte p (i+(classByte p i).2+1)).2,false)
theorem item_cases (p:ByteArray) (i:Int) :
  ((atB p i==92)=true∧(atB p (i+1)==100)=true∧0≤atB p (i+1)∧item p i=(92,atB p (i+1),2,true)) ∨
  ((atB p i==92)=true∧(atB p (i+1)==100)=false∧(atB p (i+1)==119)=true∧0≤atB p (i+1)∧item p i=(92,atB p (i+1),2,true)) ∨
  ((
   (atB p i==92)=false∨(atB p i==92)=true∧(atB p (i+1)==100)=false∧(atB p (i+1)==119)=false) ∧
   (
   (((classByte p i).2==0)=true∧item p i=(0,0,0,false)) ∨
   (((classByte p i).2==0)=false∧(atB p (i+(classByte p i).2) != 45)=true∧item p i=((classByte p i).1,(classByte p i).1,(classByte p i).2,false)) ∨
   (((classByte p i).2==0)=false∧(atB p (i+(classByte p i).2) != 45)=false∧((classByte p (i+(classByte p i).2+1)).2==0)=true∧item p i=(0,0,0,false)) ∨
   (((classByte p i).2==0)=false∧(atB p (i+(classByte p i).2) != 45)=false∧((classByte p (i+(classByte p i).2+1)).2==0)=false∧decide ((classByte p (i+(classByte p i).2+1)).1<(classByte p i).1)=true∧item p i=(0,0,0,false)) ∨
   ((
    (classByte p i).2==0)=false∧(atB p (i+(classByte p i).2) != 45)=false∧((classByte p (i+(classByte p i).2+1)).2==0)=false∧decide ((classByte p (i+(classByte p i).2+1)).1<(classByte p i).1)=false ∧
    item p i=((classByte p i).1,(classByte p (i+(classByte p i).2+1)).1,(classByte p i).2+1+(classByte p (i+(classByte p i).2+1)).2,false)))):=by
 unfold item
 generalize classByte p (i+(classByte p i).2+1)=y
 generalize atB p (i+(classByte p i).2)=z
 generalize classByte p i=x
 generalize atB p i=c
 generalize atB p (i+1)=d
 simp only [decide_eq_true_eq,decide_eq_false_iff_not,beq_iff_eq,beq_eq_false_iff_ne,bne_iff_ne,bne_eq_false_iff_eq]
 by_cases h1:c=92∧(d=100∨d=119)
 ·rw [if_pos h1]
  rcases h1 with ⟨rfl,rfl | rfl⟩ <;> simp
 ·rw [if_neg h1]
  right;right
  refine ⟨by omega,?_⟩
  by_cases h2:x.2=0
  ·rw [if_pos h2];simp [h2]
  ·rw [if_neg h2]
   by_cases h3:z≠45
   ·rw [if_pos h3];simp;omega
   ·rw [if_neg h3]
    by_cases h4:y.2=0∨y.1<x.1
    ·rw [if_pos h4];simp;omega
    ·rw [if_neg h4];simp;omega
theorem item_bd (p:ByteArray) (i:Int):0≤(item p i).1∧(item p i).1≤255∧0≤(item p i).2.1∧(item p i).2.1≤255∧0≤(item p i).2.2.1∧(item p i).2.2.1≤5:=by
 have b1:=classByte_bd p i
 have b2:=classByte_bd p (i+(classByte p i).2+1)
 unfold item
 split
 ·simp only;omega
 ·split
  ·simp
  ·split
   ·simp only;omega
   ·split
    ·simp
    ·simp only;omega
def inC (p:ByteArray) (b c:Int):Nat→Int→Bool
 | 0,_=>false
 | f+1,i =>
  if b≤i then false
  else if (item p i).2.2.1=0 then false
  else if (item p i).2.2.2 then (if shortB (decide ((item p i).2.1=119)) c then true else inC p b c f (i+(item p i).2.2.1))
  else if (item p i).1≤c∧c≤(item p i).2.1 then true
  else inC p b c f (i+(item p i).2.2.1)
theorem inC_fuel (p:ByteArray) (b c:Int):∀ (f g:Nat) (i:Int),b-i≤f→b-i≤g→inC p b c f i=inC p b c g i:=by
 intro f
 induction f with
 | zero =>
  intro g i hf hg
  cases g with
  | zero=>rfl
  | succ g=>simp only [inC];rw [if_pos (by omega)]
 | succ f ih =>
  intro g i hf hg
  cases g with
  | zero=>simp only [inC];rw [if_pos (by omega)]
  | succ g =>
   simp only [inC]
   have hb:=item_bd p i
   by_cases h0:(item p i).2.2.1=0
   ·simp [h0]
   ·rw [ih g (i+(item p i).2.2.1) (by omega) (by omega)]
def inClass (p:ByteArray) (a b c:Int):Bool:=inC p b c (b-a).toNat a
theorem inClass_step (p:ByteArray) (i b c:Int):inClass p i b c =
  if b≤i then false
  else if (item p i).2.2.1=0 then false
  else if (item p i).2.2.2 then (if shortB (decide ((item p i).2.1=119)) c then true else inClass p (i+(item p i).2.2.1) b c)
  else if (item p i).1≤c∧c≤(item p i).2.1 then true
  else inClass p (i+(item p i).2.2.1) b c:=by
 have hb:=item_bd p i
 by_cases h:b≤i
 ·rw [if_pos h];unfold inClass
  rw [show (b-i).toNat=0 by omega];rfl
 ·rw [if_neg h]
  by_cases h0:(item p i).2.2.1=0
  ·rw [if_pos h0];unfold inClass
   rw [show (b-i).toNat=(b-i).toNat-1+1 by omega];simp only [inC]
   rw [if_neg h,if_pos h0]
  ·rw [if_neg h0]
   have e:inC p b c ((b-i).toNat-1) (i+(item p i).2.2.1)=inClass p (i+(item p i).2.2.1) b c:=inC_fuel _ _ _ _ _ _ (by omega) (by omega)
   rw [← e]
   unfold inClass
   rw [show (b-i).toNat=(b-i).toNat-1+1 by omega];simp only [inC]
   rw [if_neg h,if_neg h0]
   rfl
def allTo (p:ByteArray) (a b:Int) (no:Bool) (n:Nat):List UInt8:=((List.range n).filter fun c:Nat=>inClass p a b (c:Int) != no).map UInt8.ofNat
def all (p:ByteArray) (a b:Int) (no:Bool):List UInt8:=allTo p a b no 256
def number (p:ByteArray) (i:Int):Int × Int :=
 if atB p i<48∨57<atB p i then (0,0)
 else if atB p (i+1)<48∨57<atB p (i+1) then (atB p i-48,1)
 else (10*(atB p i-48)+atB p (i+1)-48,2)
theorem number_cases (p:ByteArray) (i:Int) :
  (decide (atB p i<48)=true∧number p i=(0,0))∨(decide (atB p i<48)=false∧decide (57<atB p i)=true∧number p i=(0,0)) ∨
  (48≤atB p i∧atB p i≤57∧decide (atB p i<48)=false∧decide (57<atB p i)=false ∧
   (
   (decide (atB p (i+1)<48)=true∧number p i=(atB p i-48,1)) ∨
   (decide (atB p (i+1)<48)=false∧decide (57<atB p (i+1))=true∧number p i=(atB p i-48,1)) ∨
   (48≤atB p (i+1)∧atB p (i+1)≤57∧decide (atB p (i+1)<48)=false∧decide (57<atB p (i+1))=false∧number p i=(10*(atB p i-48)+atB p (i+1)-48,2)))):=by
 unfold number
 generalize atB p i=c
 generalize atB p (i+1)=d
 simp only [decide_eq_true_eq,decide_eq_false_iff_not]
 by_cases h1:c<48∨57<c
 ·rw [if_pos h1];simp;omega
 ·rw [if_neg h1]
  by_cases h2:d<48∨57<d
  ·rw [if_pos h2];simp;omega
  ·rw [if_neg h2];simp;omega
theorem number_bd (p:ByteArray) (i:Int):0≤(number p i).1∧(number p i).1≤99∧0≤(number p i).2∧(number p i).2≤2:=by
 unfold number
 split
 ·simp
 ·split
  ·simp only;omega
  ·simp only;omega
def count (p:ByteArray) (i:Int):Int × Int × Int × Bool :=
 if (number p (i+1)).2=0∨20<(number p (i+1)).1 then (0,0,0,false)
 else if atB p (i+1+(number p (i+1)).2)=125 then ((number p (i+1)).1,(number p (i+1)).1,i+1+(number p (i+1)).2+1,true)
 else if atB p (i+1+(number p (i+1)).2)≠44 then (0,0,0,false)
 else if atB p (i+1+(number p (i+1)).2+1)=125 then ((number p (i+1)).1,-1,i+1+(number p (i+1)).2+2,true)
 else if (number p (i+1+(number p (i+1)).2+1)).2=0∨20<(number p (i+1+(number p (i+1)).2+1)).1∨(number p (i+1+(number p (i+1)).2+1)).1<(number p (i+1)).1 ∨
   atB p (i+1+(number p (i+1)).2+1+(number p (i+1+(number p (i+1)).2+1)).2)≠125 then (0,0,0,false)
 else ((number p (i+1)).1,(number p (i+1+(number p (i+1)).2+1)).1,i+1+(number p (i+1)).2+2+(number p (i+1+(number p (i+1)).2+1)).2,true)
theorem count_cases (p:ByteArray) (i:Int) :
  (((number p (i+1)).2==0)=true∧count p i=(0,0,0,false)) ∨
  (((number p (i+1)).2==0)=false∧decide (20<(number p (i+1)).1)=true∧count p i=(0,0,0,false)) ∨
  ((
   (number p (i+1)).2==0)=false∧decide (20<(number p (i+1)).1)=false ∧
   (
   ((atB p (i+1+(number p (i+1)).2)==125)=true∧count p i=((number p (i+1)).1,(number p (i+1)).1,i+1+(number p (i+1)).2+1,true)) ∨
   ((atB p (i+1+(number p (i+1)).2)==125)=false∧(atB p (i+1+(number p (i+1)).2) != 44)=true∧count p i=(0,0,0,false)) ∨
   ((
    atB p (i+1+(number p (i+1)).2)==125)=false∧(atB p (i+1+(number p (i+1)).2) != 44)=false ∧
    (
     ((atB p (i+1+(number p (i+1)).2+1)==125)=true∧count p i=((number p (i+1)).1,-1,i+1+(number p (i+1)).2+2,true)) ∨
     ((
      atB p (i+1+(number p (i+1)).2+1)==125)=false ∧
      (
      (((number p (i+1+(number p (i+1)).2+1)).2==0)=true∧count p i=(0,0,0,false)) ∨
      (((number p (i+1+(number p (i+1)).2+1)).2==0)=false∧decide (20<(number p (i+1+(number p (i+1)).2+1)).1)=true∧count p i=(0,0,0,false)) ∨
      (((number p (i+1+(number p (i+1)).2+1)).2==0)=false∧decide (20<(number p (i+1+(number p (i+1)).2+1)).1)=false∧decide ((number p (i+1+(number p (i+1)).2+1)).1<(number p (i+1)).1)=true∧count p i=(0,0,0,false)) ∨
      ((
       (number p (i+1+(number p (i+1)).2+1)).2==0)=false∧decide (20<(number p (i+1+(number p (i+1)).2+1)).1)=false∧decide ((number p (i+1+(number p (i+1)).2+1)).1<(number p (i+1)).1)=false ∧
       (atB p (i+1+(number p (i+1)).2+1+(number p (i+1+(number p (i+1)).2+1)).2) != 125)=true∧count p i=(0,0,0,false)) ∨
      ((
       (number p (i+1+(number p (i+1)).2+1)).2==0)=false∧decide (20<(number p (i+1+(number p (i+1)).2+1)).1)=false∧decide ((number p (i+1+(number p (i+1)).2+1)).1<(number p (i+1)).1)=false ∧
       (atB p (i+1+(number p (i+1)).2+1+(number p (i+1+(number p (i+1)).2+1)).2) != 125)=false ∧
       count p i=((number p (i+1)).1,(number p (i+1+(number p (i+1)).2+1)).1,i+1+(number p (i+1)).2+2+(number p (i+1+(number p (i+1)).2+1)).2,true)))))))):=by
 unfold count
 generalize atB p (i+1+(number p (i+1)).2+1+(number p (i+1+(number p (i+1)).2+1)).2)=z
 generalize number p (i+1+(number p (i+1)).2+1)=y
 generalize atB p (i+1+(number p (i+1)).2+1)=d
 generalize atB p (i+1+(number p (i+1)).2)=c
 generalize number p (i+1)=x
 simp only [decide_eq_true_eq,decide_eq_false_iff_not,beq_iff_eq,beq_eq_false_iff_ne,bne_iff_ne,bne_eq_false_iff_eq]
 by_cases h1:x.2=0∨20<x.1
 ·rw [if_pos h1];simp;omega
 ·rw [if_neg h1]
  by_cases h2:c=125
  ·rw [if_pos h2];simp;omega
  ·rw [if_neg h2]
   by_cases h3:c≠44
   ·rw [if_pos h3];simp;omega
   ·rw [if_neg h3]
    by_cases h4:d=125
    ·rw [if_pos h4];simp;omega
    ·rw [if_neg h4]
     by_cases h5:y.2=0∨20<y.1∨y.1<x.1∨z≠125
     ·rw [if_pos h5];simp;omega
     ·rw [if_neg h5];simp;omega
theorem count_bd (p:ByteArray) (i:Int) (h0:0≤i):0≤(count p i).1∧(count p i).1≤20∧-1≤(count p i).2.1∧(count p i).2.1≤20∧0≤(count p i).2.2.1∧(count p i).2.2.1≤i+7:=by
 have b1:=number_bd p (i+1)
 have b2:=number_bd p (i+1+(number p (i+1)).2+1)
 unfold count
 split
 ·simp;omega
 ·split
  ·simp only;omega
  ·split
   ·simp;omega
   ·split
    ·simp only;omega
    ·split
     ·simp;omega
     ·simp only;omega
structure Tok where
 kind:Int
 frm:Int
 to:Int
 n:Int
 m:Int
 how:Int
 set:List UInt8
def opening (p:ByteArray) (i:Int):Tok × Bool :=
 if atB p (i+1)≠63 then (⟨6,i,i+1,0,0,4,[]⟩,true)
 else if atB p (i+2)=58 then (⟨6,i,i+3,0,0,3,[]⟩,true)
 else if atB p (i+2)=62 then (⟨6,i,i+3,0,0,0,[]⟩,true)
 else if atB p (i+2)=61 then (⟨6,i,i+3,0,0,1,[]⟩,true)
 else if atB p (i+2)=33 then (⟨6,i,i+3,0,0,2,[]⟩,true)
 else (⟨6,i,i+3,0,0,4,[]⟩,false)
theorem opening_cases (p:ByteArray) (i:Int) :
  ((atB p (i+1) != 63)=true∧opening p i=(⟨6,i,i+1,0,0,4,[]⟩,true)) ∨
  ((
   atB p (i+1) != 63)=false ∧
   (
   ((atB p (i+2)==58)=true∧opening p i=(⟨6,i,i+3,0,0,3,[]⟩,true)) ∨
   ((atB p (i+2)==58)=false∧(atB p (i+2)==62)=true∧opening p i=(⟨6,i,i+3,0,0,0,[]⟩,true)) ∨
   ((atB p (i+2)==58)=false∧(atB p (i+2)==62)=false∧(atB p (i+2)==61)=true∧opening p i=(⟨6,i,i+3,0,0,1,[]⟩,true)) ∨
   ((atB p (i+2)==58)=false∧(atB p (i+2)==62)=false∧(atB p (i+2)==61)=false∧(atB p (i+2)==33)=true∧opening p i=(⟨6,i,i+3,0,0,2,[]⟩,true)) ∨
   ((atB p (i+2)==58)=false∧(atB p (i+2)==62)=false∧(atB p (i+2)==61)=false∧(atB p (i+2)==33)=false∧opening p i=(⟨6,i,i+3,0,0,4,[]⟩,false)))):=by
 unfold opening
 generalize atB p (i+1)=c
 generalize atB p (i+2)=d
 simp only [beq_iff_eq,beq_eq_false_iff_ne,bne_iff_ne,bne_eq_false_iff_eq]
 by_cases h1:c≠63
 ·rw [if_pos h1];simp;omega
 ·rw [if_neg h1]
  by_cases h2:d=58
  ·rw [if_pos h2];simp;omega
  ·rw [if_neg h2]
   by_cases h3:d=62
   ·rw [if_pos h3];simp;omega
   ·rw [if_neg h3]
    by_cases h4:d=61
    ·rw [if_pos h4];simp;omega
    ·rw [if_neg h4]
     by_cases h5:d=33
     ·rw [if_pos h5];simp;omega
     ·rw [if_neg h5];simp;omega
def escape (p:ByteArray) (i:Int):Tok × Bool :=
 if atB p (i+1)<0 then (⟨1,i,i+2,0,0,0,[]⟩,false)
 else if atB p (i+1)=100∨atB p (i+1)=119 then (⟨1,i,i+2,0,0,0,all p i (i+2) false⟩,true)
 else if 49≤atB p (i+1)∧atB p (i+1)≤57 then (⟨2,i,i+2,atB p (i+1)-48,0,0,[]⟩,true)
 else (⟨1,i,i+2,0,0,0,[UInt8.ofNat (atB p (i+1)).toNat]⟩,!digB (atB p (i+1))&&!letB (atB p (i+1)))
theorem escape_cases (p:ByteArray) (i:Int) :
  (decide (atB p (i+1)<0)=true∧escape p i=(⟨1,i,i+2,0,0,0,[]⟩,false)) ∨
  (0≤atB p (i+1)∧decide (atB p (i+1)<0)=false ∧
   (
   ((atB p (i+1)==100)=true∧escape p i=(⟨1,i,i+2,0,0,0,all p i (i+2) false⟩,true)) ∨
   ((atB p (i+1)==100)=false∧(atB p (i+1)==119)=true∧escape p i=(⟨1,i,i+2,0,0,0,all p i (i+2) false⟩,true)) ∨
   ((atB p (i+1)==100)=false∧(atB p (i+1)==119)=false∧49≤atB p (i+1)∧atB p (i+1)≤57∧decide (49≤atB p (i+1))=true∧decide (atB p (i+1)≤57)=true∧escape p i=(⟨2,i,i+2,atB p (i+1)-48,0,0,[]⟩,true)) ∨
   ((
    atB p (i+1)==100)=false∧(atB p (i+1)==119)=false∧(decide (49≤atB p (i+1))=false∨decide (49≤atB p (i+1))=true∧decide (atB p (i+1)≤57)=false) ∧
    escape p i=(⟨1,i,i+2,0,0,0,[UInt8.ofNat (atB p (i+1)).toNat]⟩,!digB (atB p (i+1))&&!letB (atB p (i+1)))))):=by
 unfold escape
 generalize atB p (i+1)=c
 simp only [beq_iff_eq,beq_eq_false_iff_ne,decide_eq_true_eq,decide_eq_false_iff_not]
 by_cases h1:c<0
 ·rw [if_pos h1];simp;omega
 ·rw [if_neg h1]
  by_cases h2:c=100∨c=119
  ·rw [if_pos h2];simp;omega
  ·rw [if_neg h2]
   by_cases h3:49≤c∧c≤57
   ·rw [if_pos h3];simp;omega
   ·rw [if_neg h3];simp;omega
def mood (p:ByteArray) (t:Int):Int × Int:=if atB p t=63 then (1,t+1) else if atB p t=43 then (2,t+1) else (0,t)
def repeatT (p:ByteArray) (i:Int):Tok × Bool :=
 if atB p i=43 then (⟨8,i,(mood p (i+1)).2,1,-1,(mood p (i+1)).1,[]⟩,true)
 else if atB p i=63 then (⟨8,i,(mood p (i+1)).2,0,1,(mood p (i+1)).1,[]⟩,true)
 else if atB p i=123 then
  (if (count p i).2.2.2 then (⟨8,i,(mood p (count p i).2.2.1).2,(count p i).1,(count p i).2.1,(mood p (count p i).2.2.1).1,[]⟩,true) else (⟨8,i,i+1,0,-1,0,[]⟩,false))
 else (⟨8,i,(mood p (i+1)).2,0,-1,(mood p (i+1)).1,[]⟩,true)
def classEnd (p:ByteArray):Nat→Int→Int
 | 0,_=>-1
 | f+1,b =>
  if (p.size:Int)≤b then -1
  else if atB p b=93 then b
  else if (item p b).2.2.1=0 then -1
  else classEnd p f (b+(item p b).2.2.1)
theorem classEnd_fuel (p:ByteArray):∀ (f g:Nat) (b:Int),(p.size:Int)-b<f→(p.size:Int)-b<g→classEnd p f b=classEnd p g b:=by
 intro f
 induction f with
 | zero =>
  intro g b hf hg
  cases g with
  | zero=>rfl
  | succ g=>simp only [classEnd];rw [if_pos (by omega)]
 | succ f ih =>
  intro g b hf hg
  cases g with
  | zero=>simp only [classEnd];rw [if_pos (by omega)]
  | succ g =>
   simp only [classEnd]
   have hb:=item_bd p b
   by_cases h0:(item p b).2.2.1=0
   ·simp [h0]
   ·by_cases h1:(p.size:Int)≤b
    ·simp [h1]
    ·rw [ih g (b+(item p b).2.2.1) (by omega) (by omega)]
def classFrom (p:ByteArray) (b:Int):Int:=classEnd p ((p.size:Int)-b+1).toNat b
theorem classFrom_step (p:ByteArray) (b:Int):classFrom p b =
  if (p.size:Int)≤b then -1
  else if atB p b=93 then b
  else if (item p b).2.2.1=0 then -1
  else classFrom p (b+(item p b).2.2.1):=by
 have hb:=item_bd p b
 by_cases h:(p.size:Int)≤b
 ·rw [if_pos h];unfold classFrom
  generalize ((p.size:Int)-b+1).toNat=f
  cases f with
  | zero=>rfl
  | succ f=>simp only [classEnd];rw [if_pos h]
 ·rw [if_neg h]
  by_cases h1:atB p b=93
  ·rw [if_pos h1];unfold classFrom
   rw [show ((p.size:Int)-b+1).toNat=((p.size:Int)-b).toNat+1 by omega];simp only [classEnd]
   rw [if_neg h,if_pos h1]
  ·rw [if_neg h1]
   by_cases h0:(item p b).2.2.1=0
   ·rw [if_pos h0];unfold classFrom
    rw [show ((p.size:Int)-b+1).toNat=((p.size:Int)-b).toNat+1 by omega];simp only [classEnd]
    rw [if_neg h,if_neg h1,if_pos h0]
   ·rw [if_neg h0]
    unfold classFrom
    rw [show ((p.size:Int)-b+1).toNat=((p.size:Int)-b).toNat+1 by omega];simp only [classEnd]
    rw [if_neg h,if_neg h1,if_neg h0]
    exact classEnd_fuel _ _ _ _ (by omega) (by omega)
theorem classFrom_bd (p:ByteArray):∀ (f:Nat) (b:Int),(p.size:Int)-b<f→0≤b→classFrom p b=-1∨(b≤classFrom p b∧classFrom p b<(p.size:Int)):=by
 intro f
 induction f with
 | zero=>intro b h hb;rw [classFrom_step,if_pos (by omega)];simp
 | succ f ih =>
  intro b h hb
  have hi:=item_bd p b
  rw [classFrom_step]
  by_cases h1:(p.size:Int)≤b
  ·simp [h1]
  ·rw [if_neg h1]
   by_cases h2:atB p b=93
   ·rw [if_pos h2];omega
   ·rw [if_neg h2]
    by_cases h3:(item p b).2.2.1=0
    ·simp [h3]
    ·rw [if_neg h3]
     have:=ih (b+(item p b).2.2.1) (by omega) (by omega)
     omega
def classA (p:ByteArray) (i:Int):Int:=if atB p (i+1)=94 then i+2 else i+1
def classT (p:ByteArray) (i:Int):Tok × Bool :=
 if classFrom p (classA p i)=-1∨classFrom p (classA p i)=classA p i then (⟨0,0,0,0,0,0,[]⟩,false)
 else (⟨1,i,classFrom p (classA p i)+1,0,0,0,all p (classA p i) (classFrom p (classA p i)) (decide (atB p (i+1)=94))⟩,true)
end Mt
