import Derived.Below
set_option linter.unusedVariables false
set_option linter.unusedSimpArgs false
namespace Mt
def atB (p:ByteArray) (i:Int):Int:=if i<0∨(p.size:Int)≤i then -1 else ((p.data.toList.getD i.toNat 0).toNat:Int)
theorem atB_lo (p:ByteArray) (i:Int):-1≤atB p i:=by unfold atB;split <;> omega
theorem atB_hi (p:ByteArray) (i:Int):atB p i≤255:=by
 unfold atB;split
 ·omega
 ·have:=(p.data.toList.getD i.toNat 0).toNat_lt;omega
theorem atB_out (p:ByteArray) (i:Int) (h:i<0∨(p.size:Int)≤i):atB p i=-1:=by unfold atB;rw [if_pos h]
theorem atB_in (p:ByteArray) (i:Int) (h0:0≤i) (h:i<(p.size:Int)):atB p i=((p.data.toList.getD i.toNat 0).toNat:Int):=by
 unfold atB;rw [if_neg (by omega)]
theorem atB_ge (p:ByteArray) (i:Int) (h:0≤atB p i):0≤i∧i<(p.size:Int):=by
 unfold atB at h;split at h <;> omega
def digB (c:Int):Bool:=decide (48≤c∧c≤57)
def letB (c:Int):Bool:=decide ((97≤c∧c≤122)∨(65≤c∧c≤90))
def classByte (p:ByteArray) (i:Int):Int × Int :=
 if atB p i<0∨atB p i=93∨atB p i=45 then (0,0)
 else if atB p i≠92 then (atB p i,1)
 else if atB p (i+1)<0∨digB (atB p (i+1))=true∨letB (atB p (i+1))=true then (0,0)
 else (atB p (i+1),2)
theorem classByte_bd (p:ByteArray) (i:Int):0≤(classByte p i).1∧(classByte p i).1≤255∧0≤(classByte p i).2∧(classByte p i).2≤2:=by
 have l1:=atB_hi p i
 have l2:=atB_hi p (i+1)
 unfold classByte
 split
 ·simp
 ·split
  ·simp only;omega
  ·split
   ·simp
   ·simp only;omega
def shortB (w:Bool) (c:Int):Bool:=digB c||(w&&(letB c||decide (c=95)))
def item (p:ByteArray) (i:Int):Int × Int × Int × Bool :=
 if atB p i=92∧(atB p (i+1)=100∨atB p (i+1)=119) then (92,atB p (i+1),2,true)
 else if (classByte p i).2=0 then (0,0,0,false)
 else if atB p (i+(classByte p i).2)≠45 then ((classByte p i).1,(classByte p i).1,(classByte p i).2,false)
 else if (classByte p (i+(classByte p i).2+1)).2=0∨(classByte p (i+(classByte p i).2+1)).1<(classByte p i).1 then (0,0,0,false)
 else ((classByte p i).1,(classByte p (i+(classByte p i).2+1)).1,(classByte p i).2+1+(classByte p (i+(classByte p i).2+1)).2,false)
theorem item_bd (p:ByteArray) (i:Int):0≤(item p i).1∧(item p i).1≤255∧0≤(item p i).2.1∧(item p i).2.1≤255∧0≤(item p i).2.2.1∧(item p i).2.2.1≤5:=by
 have b1:=classByte_bd p i
 have b2:=classByte_bd p (i+(classByte p i).2+1)
 unfold item
 split
 ·simp only;omega
 ·split
  ·simp
  ·split
   ·simp only;omega
   ·split
    ·simp
    ·simp only;omega
def inC (p:ByteArray) (b c:Int):Nat→Int→Bool
 | 0,_=>false
 | f+1,i =>
  if b≤i then false
  else if (item p i).2.2.1=0 then false
  else if (item p i).2.2.2 then (if shortB (decide ((item p i).2.1=119)) c then true else inC p b c f (i+(item p i).2.2.1))
  else if (item p i).1≤c∧c≤(item p i).2.1 then true
  else inC p b c f (i+(item p i).2.2.1)
theorem inC_fuel (p:ByteArray) (b c:Int):∀ (f g:Nat) (i:Int),b-i≤f→b-i≤g→inC p b c f i=inC p b c g i:=by
 intro f
 induction f with
 | zero =>
  intro g i hf hg
  cases g with
  | zero=>rfl
  | succ g=>simp only [inC];rw [if_pos (by omega)]
 | succ f ih =>
  intro g i hf hg
  cases g with
  | zero=>simp only [inC];rw [if_pos (by omega)]
  | succ g =>
   simp only [inC]
   have hb:=item_bd p i
   by_cases h0:(item p i).2.2.1=0
   ·simp [h0]
   ·rw [ih g (i+(item p i).2.2.1) (by omega) (by omega)]
def inClass (p:ByteArray) (a b c:Int):Bool:=inC p b c (b-a).toNat a
theorem inClass_step (p:ByteArray) (i b c:Int):inClass p i b c =
  if b≤i then false
  else if (item p i).2.2.1=0 then false
  else if (item p i).2.2.2 then (if shortB (decide ((item p i).2.1=119)) c then true else inClass p (i+(item p i).2.2.1) b c)
  else if (item p i).1≤c∧c≤(item p i).2.1 then true
  else inClass p (i+(item p i).2.2.1) b c:=by
 have hb:=item_bd p i
 by_cases h:b≤i
 ·rw [if_pos h];unfold inClass
  rw [show (b-i).toNat=0 by omega];rfl
 ·rw [if_neg h]
  by_cases h0:(item p i).2.2.1=0
  ·rw [if_pos h0];unfold inClass
   rw [show (b-i).toNat=(b-i).toNat-1+1 by omega];simp only [inC]
   rw [if_neg h,if_pos h0]
  ·rw [if_neg h0]
   have e:inC p b c ((b-i).toNat-1) (i+(item p i).2.2.1)=inClass p (i+(item p i).2.2.1) b c:=inC_fuel _ _ _ _ _ _ (by omega) (by omega)
   rw [← e]
   unfold inClass
   rw [show (b-i).toNat=(b-i).toNat-1+1 by omega];simp only [inC]
   rw [if_neg h,if_neg h0]
   rfl
def allTo (p:ByteArray) (a b:Int) (no:Bool) (n:Nat):List UInt8:=((List.range n).filter fun c:Nat=>inClass p a b (c:Int) != no).map UInt8.ofNat
def all (p:ByteArray) (a b:Int) (no:Bool):List UInt8:=allTo p a b no 256
def number (p:ByteArray) (i:Int):Int × Int :=
 if atB p i<48∨57<atB p i then (0,0)
 else if atB p (i+1)<48∨57<atB p (i+1) then (atB p i-48,1)
 else (10*(atB p i-48)+atB p (i+1)-48,2)
theorem number_bd (p:ByteArray) (i:Int):0≤(number p i).1∧(number p i).1≤99∧0≤(number p i).2∧(number p i).2≤2:=by
 unfold number
 split
 ·simp
 ·split
  ·simp only;omega
  ·simp only;omega
def count (p:ByteArray) (i:Int):Int × Int × Int × Bool :=
 if (number p (i+1)).2=0∨20<(number p (i+1)).1 then (0,0,0,false)
 else if atB p (i+1+(number p (i+1)).2)=125 then ((number p (i+1)).1,(number p (i+1)).1,i+1+(number p (i+1)).2+1,true)
 else if atB p (i+1+(number p (i+1)).2)≠44 then (0,0,0,false)
 else if atB p (i+1+(number p (i+1)).2+1)=125 then ((number p (i+1)).1,-1,i+1+(number p (i+1)).2+2,true)
 else if (number p (i+1+(number p (i+1)).2+1)).2=0∨20<(number p (i+1+(number p (i+1)).2+1)).1∨(number p (i+1+(number p (i+1)).2+1)).1<(number p (i+1)).1 ∨
   atB p (i+1+(number p (i+1)).2+1+(number p (i+1+(number p (i+1)).2+1)).2)≠125 then (0,0,0,false)
 else ((number p (i+1)).1,(number p (i+1+(number p (i+1)).2+1)).1,i+1+(number p (i+1)).2+2+(number p (i+1+(number p (i+1)).2+1)).2,true)
theorem count_cases (p:ByteArray) (i:Int) :
  (((number p (i+1)).2==0)=true∧count p i=(0,0,0,false)) ∨
  (((number p (i+1)).2==0)=false∧decide (20<(number p (i+1)).1)=true∧count p i=(0,0,0,false)) ∨
  ((
   (number p (i+1)).2==0)=false∧decide (20<(number p (i+1)).1)=false ∧
   (
   ((atB p (i+1+(number p (i+1)).2)==125)=true∧count p i=((number p (i+1)).1,(number p (i+1)).1,i+1+(number p (i+1)).2+1,true)) ∨
   ((atB p (i+1+(number p (i+1)).2)==125)=false∧(atB p (i+1+(number p (i+1)).2) != 44)=true∧count p i=(0,0,0,false)) ∨
   ((
    atB p (i+1+(number p (i+1)).2)==125)=false∧(atB p (i+1+(number p (i+1)).2) != 44)=false ∧
    (
     ((atB p (i+1+(number p (i+1)).2+1)==125)=true∧count p i=((number p (i+1)).1,-1,i+1+(number p (i+1)).2+2,true)) ∨
     ((
      atB p (i+1+(number p (i+1)).2+1)==125)=false ∧
      (
      (((number p (i+1+(number p (i+1)).2+1)).2==0)=true∧count p i=(0,0,0,false)) ∨
      (((number p (i+1+(number p (i+1)).2+1)).2==0)=false∧decide (20<(number p (i+1+(number p (i+1)).2+1)).1)=true∧count p i=(0,0,0,false)) ∨
      (((number p (i+1+(number p (i+1)).2+1)).2==0)=false∧decide (20<(number p (i+1+(number p (i+1)).2+1)).1)=false∧decide ((number p (i+1+(number p (i+1)).2+1)).1<(number p (i+1)).1)=true∧count p i=(0,0,0,false)) ∨
      ((
       (number p (i+1+(number p (i+1)).2+1)).2==0)=false∧decide (20<(number p (i+1+(number p (i+1)).2+1)).1)=false∧decide ((number p (i+1+(number p (i+1)).2+1)).1<(number p (i+1)).1)=false ∧
       (atB p (i+1+(number p (i+1)).2+1+(number p (i+1+(number p (i+1)).2+1)).2) != 125)=true∧count p i=(0,0,0,false)) ∨
      ((
       (number p (i+1+(number p (i+1)).2+1)).2==0)=false∧decide (20<(number p (i+1+(number p (i+1)).2+1)).1)=false∧decide ((number p (i+1+(number p (i+1)).2+1)).1<(number p (i+1)).1)=false ∧
       (atB p (i+1+(number p (i+1)).2+1+(number p (i+1+(number p (i+1)).2+1)).2) != 125)=false ∧
       count p i=((number p (i+1)).1,(number p (i+1+(number p (i+1)).2+1)).1,i+1+(number p (i+1)).2+2+(number p (i+1+(number p (i+1)).2+1)).2,true)))))))):=by
 unfold count
 generalize atB p (i+1+(number p (i+1)).2+1+(number p (i+1+(number p (i+1)).2+1)).2)=z
 generalize number p (i+1+(number p (i+1)).2+1)=y
 generalize atB p (i+1+(number p (i+1)).2+1)=d
 generalize atB p (i+1+(number p (i+1)).2)=c
 generalize number p (i+1)=x
 simp only [decide_eq_true_eq,decide_eq_false_iff_not,beq_iff_eq,beq_eq_false_iff_ne,bne_iff_ne,bne_eq_false_iff_eq]
 by_cases h1:x.2=0∨20<x.1
 ·rw [if_pos h1];simp;omega
 ·rw [if_neg h1]
  by_cases h2:c=125
  ·rw [if_pos h2];simp;omega
  ·rw [if_neg h2]
   by_cases h3:c≠44
   ·rw [if_pos h3];simp;omega
   ·rw [if_neg h3]
    by_cases h4:d=125
    ·rw [if_pos h4];simp;omega
    ·rw [if_neg h4]
     by_cases h5:y.2=0∨20<y.1∨y.1<x.1∨z≠125
     ·rw [if_pos h5];simp;omega
     ·rw [if_neg h5];simp;omega
structure Tok where
 kind:Int
 frm:Int
 to:Int
 n:Int
 m:Int
 how:Int
 set:List UInt8
def opening (p:ByteArray) (i:Int):Tok × Bool :=
 if atB p (i+1)≠63 then (⟨6,i,i+1,0,0,4,[]⟩,true)
 else if atB p (i+2)=58 then (⟨6,i,i+3,0,0,3,[]⟩,true)
 else if atB p (i+2)=62 then (⟨6,i,i+3,0,0,0,[]⟩,true)
 else if atB p (i+2)=61 then (⟨6,i,i+3,0,0,1,[]⟩,true)
 else if atB p (i+2)=33 then (⟨6,i,i+3,0,0,2,[]⟩,true)
 else (⟨6,i,i+3,0,0,4,[]⟩,false)
theorem opening_cases (p:ByteArray) (i:Int) :
  ((atB p (i+1) != 63)=true∧opening p i=(⟨6,i,i+1,0,0,4,[]⟩,true)) ∨
  ((
   atB p (i+1) != 63)=false ∧
   (
   ((atB p (i+2)==58)=true∧opening p i=(⟨6,i,i+3,0,0,3,[]⟩,true)) ∨
   ((atB p (i+2)==58)=false∧(atB p (i+2)==62)=true∧opening p i=(⟨6,i,i+3,0,0,0,[]⟩,true)) ∨
   ((atB p (i+2)==58)=false∧(atB p (i+2)==62)=false∧(atB p (i+2)==61)=true∧opening p i=(⟨6,i,i+3,0,0,1,[]⟩,true)) ∨
   ((atB p (i+2)==58)=false∧(atB p (i+2)==62)=false∧(atB p (i+2)==61)=false∧(atB p (i+2)==33)=true∧opening p i=(⟨6,i,i+3,0,0,2,[]⟩,true)) ∨
   ((atB p (i+2)==58)=false∧(atB p (i+2)==62)=false∧(atB p (i+2)==61)=false∧(atB p (i+2)==33)=false∧opening p i=(⟨6,i,i+3,0,0,4,[]⟩,false)))):=by
 unfold opening
 generalize atB p (i+1)=c
 generalize atB p (i+2)=d
 simp only [beq_iff_eq,beq_eq_false_iff_ne,bne_iff_ne,bne_eq_false_iff_eq]
 by_cases h1:c≠63
 ·rw [if_pos h1];simp;omega
 ·rw [if_neg h1]
  by_cases h2:d=58
  ·rw [if_pos h2];simp;omega
  ·rw [if_neg h2]
   by_cases h3:d=62
   ·rw [if_pos h3];simp;omega
   ·rw [if_neg h3]
    by_cases h4:d=61
    ·rw [if_pos h4];simp;omega
    ·rw [if_neg h4]
     by_cases h5:d=33
     ·rw [if_pos h5];simp;omega
     ·rw [if_neg h5];simp;omega
def escape (p:ByteArray) (i:Int):Tok × Bool :=
 if atB p (i+1)<0 then (⟨1,i,i+2,0,0,0,[]⟩,false)
 else if atB p (i+1)=100∨atB p (i+1)=119 then (⟨1,i,i+2,0,0,0,all p i (i+2) false⟩,true)
 else if 49≤atB p (i+1)∧atB p (i+1)≤57 then (⟨2,i,i+2,atB p (i+1)-48,0,0,[]⟩,true)
 else (⟨1,i,i+2,0,0,0,[UInt8.ofNat (atB p (i+1)).toNat]⟩,!digB (atB p (i+1))&&!letB (atB p (i+1)))
theorem escape_cases (p:ByteArray) (i:Int) :
  (decide (atB p (i+1)<0)=true∧escape p i=(⟨1,i,i+2,0,0,0,[]⟩,false)) ∨
  (0≤atB p (i+1)∧decide (atB p (i+1)<0)=false ∧
   (
   ((atB p (i+1)==100)=true∧escape p i=(⟨1,i,i+2,0,0,0,all p i (i+2) false⟩,true)) ∨
   ((atB p (i+1)==100)=false∧(atB p (i+1)==119)=true∧escape p i=(⟨1,i,i+2,0,0,0,all p i (i+2) false⟩,true)) ∨
   ((atB p (i+1)==100)=false∧(atB p (i+1)==119)=false∧49≤atB p (i+1)∧atB p (i+1)≤57∧decide (49≤atB p (i+1))=true∧decide (atB p (i+1)≤57)=true∧escape p i=(⟨2,i,i+2,atB p (i+1)-48,0,0,[]⟩,true)) ∨
   ((
    atB p (i+1)==100)=false∧(atB p (i+1)==119)=false∧(decide (49≤atB p (i+1))=false∨decide (49≤atB p (i+1))=true∧decide (atB p (i+1)≤57)=false) ∧
    escape p i=(⟨1,i,i+2,0,0,0,[UInt8.ofNat (atB p (i+1)).toNat]⟩,!digB (atB p (i+1))&&!letB (atB p (i+1)))))):=by
 unfold escape
 generalize atB p (i+1)=c
 simp only [beq_iff_eq,beq_eq_false_iff_ne,decide_eq_true_eq,decide_eq_false_iff_not]
 by_cases h1:c<0
 ·rw [if_pos h1];simp;omega
 ·rw [if_neg h1]
  by_cases h2:c=100∨c=119
  ·rw [if_pos h2];simp;omega
  ·rw [if_neg h2]
   by_cases h3:49≤c∧c≤57
   ·rw [if_pos h3];simp;omega
   ·rw [if_neg h3];simp;omega
def mood (p:ByteArray) (t:Int):Int × Int:=if atB p t=63 then (1,t+1) else if atB p t=43 then (2,t+1) else (0,t)
def repeatT (p:ByteArray) (i:Int):Tok × Bool :=
 if atB p i=43 then (⟨8,i,(mood p (i+1)).2,1,-1,(mood p (i+1)).1,[]⟩,true)
 else if atB p i=63 then (⟨8,i,(mood p (i+1)).2,0,1,(mood p (i+1)).1,[]⟩,true)
 else if atB p i=123 then
  (if (count p i).2.2.2 then (⟨8,i,(mood p (count p i).2.2.1).2,(count p i).1,(count p i).2.1,(mood p (count p i).2.2.1).1,[]⟩,true) else (⟨8,i,i+1,0,-1,0,[]⟩,false))
 else (⟨8,i,(mood p (i+1)).2,0,-1,(mood p (i+1)).1,[]⟩,true)
def classEnd (p:ByteArray):Nat→Int→Int
 | 0,_=>-1
 | f+1,b =>
  if (p.size:Int)≤b then -1
  else if atB p b=93 then b
  else if (item p b).2.2.1=0 then -1
  else classEnd p f (b+(item p b).2.2.1)
theorem classEnd_fuel (p:ByteArray):∀ (f g:Nat) (b:Int),(p.size:Int)-b<f→(p.size:Int)-b<g→classEnd p f b=classEnd p g b:=by
 intro f
 induction f with
 | zero =>
  intro g b hf hg
  cases g with
  | zero=>rfl
  | succ g=>simp only [classEnd];rw [if_pos (by omega)]
 | succ f ih =>
  intro g b hf hg
  cases g with
  | zero=>simp only [classEnd];rw [if_pos (by omega)]
  | succ g =>
   simp only [classEnd]
   have hb:=item_bd p b
   by_cases h0:(item p b).2.2.1=0
   ·simp [h0]
   ·by_cases h1:(p.size:Int)≤b
    ·simp [h1]
    ·rw [ih g (b+(item p b).2.2.1) (by omega) (by omega)]
def classFrom (p:ByteArray) (b:Int):Int:=classEnd p ((p.size:Int)-b+1).toNat b
theorem classFrom_step (p:ByteArray) (b:Int):classFrom p b =
  if (p.size:Int)≤b then -1
  else if atB p b=93 then b
  else if (item p b).2.2.1=0 then -1
  else classFrom p (b+(item p b).2.2.1):=by
 have hb:=item_bd p b
 by_cases h:(p.size:Int)≤b
 ·rw [if_pos h];unfold classFrom
  generalize ((p.size:Int)-b+1).toNat=f
  cases f with
  | zero=>rfl
  | succ f=>simp only [classEnd];rw [if_pos h]
 ·rw [if_neg h]
  by_cases h1:atB p b=93
  ·rw [if_pos h1];unfold classFrom
   rw [show ((p.size:Int)-b+1).toNat=((p.size:Int)-b).toNat+1 by omega];simp only [classEnd]
   rw [if_neg h,if_pos h1]
  ·rw [if_neg h1]
   by_cases h0:(item p b).2.2.1=0
   ·rw [if_pos h0];unfold classFrom
    rw [show ((p.size:Int)-b+1).toNat=((p.size:Int)-b).toNat+1 by omega];simp only [classEnd]
    rw [if_neg h,if_neg h1,if_pos h0]
   ·rw [if_neg h0]
    unfold classFrom
    rw [show ((p.size:Int)-b+1).toNat=((p.size:Int)-b).toNat+1 by omega];simp only [classEnd]
    rw [if_neg h,if_neg h1,if_neg h0]
    exact classEnd_fuel _ _ _ _ (by omega) (by omega)
theorem classFrom_bd (p:ByteArray):∀ (f:Nat) (b:Int),(p.size:Int)-b<f→0≤b→classFrom p b=-1∨(b≤classFrom p b∧classFrom p b<(p.size:Int)):=by
 intro f
 induction f with
 | zero=>intro b h hb;rw [classFrom_step,if_pos (by omega)];simp
 | succ f ih =>
  intro b h hb
  have hi:=item_bd p b
  rw [classFrom_step]
  by_cases h1:(p.size:Int)≤b
  ·simp [h1]
  ·rw [if_neg h1]
   by_cases h2:atB p b=93
   ·rw [if_pos h2];omega
   ·rw [if_neg h2]
    by_cases h3:(item p b).2.2.1=0
    ·simp [h3]
    ·rw [if_neg h3]
     have:=ih (b+(item p b).2.2.1) (by omega) (by omega)
     omega
def classA (p:ByteArray) (i:Int):Int:=if atB p (i+1)=94 then i+2 else i+1
def classT (p:ByteArray) (i:Int):Tok × Bool :=
 if classFrom p (classA p i)=-1∨classFrom p (classA p i)=classA p i then (⟨0,0,0,0,0,0,[]⟩,false)
 else (⟨1,i,classFrom p (classA p i)+1,0,0,0,all p (classA p i) (classFrom p (classA p i)) (decide (atB p (i+1)=94))⟩,true)
def nextT (p:ByteArray) (i:Int):Tok × Int :=
 if atB p i=124 then (⟨5,i,i+1,0,0,0,[]⟩,0)
 else if atB p i=41 then (⟨7,i,i+1,0,0,0,[]⟩,0)
 else if atB p i=94 then (⟨3,i,i+1,0,0,0,[]⟩,0)
 else if atB p i=36 then (⟨4,i,i+1,0,0,0,[]⟩,0)
 else if atB p i=92 then ((escape p i).1,if (escape p i).2 then 0 else 2)
 else if atB p i=91 then ((classT p i).1,if (classT p i).2 then 0 else 3)
 else if atB p i=40 then ((opening p i).1,if (opening p i).2 then 0 else 5)
 else if atB p i=42∨atB p i=43∨atB p i=63∨atB p i=123 then ((repeatT p i).1,if (repeatT p i).2 then 0 else 4)
 else if atB p i=46 then (⟨1,i,i+1,0,0,0,all p i i true⟩,0)
 else (⟨1,i,i+1,0,0,0,[UInt8.ofNat (atB p i).toNat]⟩,0)
def tok0:Tok:=⟨0,0,0,0,0,0,[]⟩
def delta (t:Tok):Int:=if t.kind=6 then 1 else if t.kind=7 then -1 else 0
def opened:List Tok→Int
 | []=>0
 | t::r=>delta t+opened r
theorem opened_append (a b:List Tok):opened (a++b)=opened a+opened b:=by
 induction a with
 | nil=>simp [opened]
 | cons t r ih=>simp only [List.cons_append,opened,ih];omega
theorem take_next (l:List Tok) (k:Nat) (h:k<l.length):l.take (k+1)=l.take k++[l.getD k tok0]:=by
 rw [List.take_succ_eq_append_getElem h,List.getD_eq_getElem?_getD,List.getElem?_eq_getElem h];rfl
theorem opened_next (l:List Tok) (k:Nat) (h:k<l.length):opened (l.take (k+1))=opened (l.take k)+delta (l.getD k tok0):=by
 rw [take_next l k h,opened_append];simp [opened]
theorem delta_bd (t:Tok):-1≤delta t∧delta t≤1:=by
 unfold delta
 split
 ·omega
 ·split <;> omega
theorem opened_bd (l:List Tok):-(l.length:Int)≤opened l∧opened l≤l.length:=by
 induction l with
 | nil=>simp [opened]
 | cons t r ih=>have:=delta_bd t;simp only [opened,List.length_cons];omega
def isCap (t:Tok):Bool:=decide (t.kind=6∧t.how=4)
def captures:List Tok→Int
 | []=>0
 | t::r=>(if isCap t then 1 else 0)+captures r
theorem captures_append (a b:List Tok):captures (a++b)=captures a+captures b:=by
 induction a with
 | nil=>simp [captures]
 | cons t r ih=>simp only [List.cons_append,captures,ih];omega
theorem captures_next (l:List Tok) (k:Nat) (h:k<l.length):captures (l.take (k+1))=captures (l.take k)+if isCap (l.getD k tok0) then 1 else 0:=by
 rw [take_next l k h,captures_append];simp [captures]
theorem captures_bd (l:List Tok):0≤captures l∧captures l≤l.length:=by
 induction l with
 | nil=>simp [captures]
 | cons t r ih=>simp only [captures,List.length_cons];split <;> omega
def closeFrom:List Tok→Int→Nat→Nat
 | [],_,j=>j
 | t::r,n,j=>if n+delta t=0 then j else closeFrom r (n+delta t) (j+1)
def closing (l:List Tok) (i:Nat):Nat:=closeFrom (l.drop i) 0 i
theorem drop_next (l:List Tok) (k:Nat) (h:k<l.length):l.drop k=l.getD k tok0::l.drop (k+1):=by
 rw [List.drop_eq_getElem_cons h,List.getD_eq_getElem?_getD,List.getElem?_eq_getElem h];rfl
theorem closeFrom_ge:∀ (l:List Tok) (n:Int) (j:Nat),j≤closeFrom l n j:=by
 intro l
 induction l with
 | nil=>intro n j;simp [closeFrom]
 | cons t r ih =>
  intro n j
  simp only [closeFrom]
  split
  ·omega
  ·have:=ih (n+delta t) (j+1);omega
theorem closing_ge (l:List Tok) (i:Nat):i≤closing l i:=closeFrom_ge _ _ _
def closedFrom (l:List Tok) (k:Int):List Tok→Nat→Bool
 | [],_=>false
 | t::r,j=>if isCap t=true∧t.n=k then decide (closing l j<l.length) else closedFrom l k r (j+1)
def closed (l:List Tok) (k:Int):Bool:=closedFrom l k l 0
def atomEnds (l:List Tok):Bool :=
 match l.getLast? with
 | none=>false
 | some t=>decide (t.kind=1∨t.kind=2∨t.kind=3∨t.kind=4∨t.kind=7)
def may (l:List Tok) (t:Tok):Int :=
 if t.kind=2 then (if closed l t.n then 0 else 6)
 else if t.kind=8 then (if atomEnds l then 0 else 7)
 else if t.kind=6 then (if 10≤opened l then 8 else if t.how=4∧9≤captures l then 9 else 0)
 else if t.kind=7 then (if opened l=0 then 10 else 0)
 else 0
def joined (l:List Tok) (t:Tok):Tok:=if isCap t then { t with n:=captures l+1 } else t
def readFrom (p:ByteArray):Nat→List Tok→Int→List Tok × Int × Int
 | 0,l,i=>(l,0,i)
 | f+1,l,i =>
  if (p.size:Int)≤i then (l,0,i)
  else if (nextT p i).2≠0 then ([],(nextT p i).2,i)
  else if may l (nextT p i).1≠0 then ([],may l (nextT p i).1,i)
  else readFrom p f (l++[joined l (nextT p i).1]) (nextT p i).1.to
def tokens (p:ByteArray):List Tok × Int × Int :=
 if 64<p.size then ([],1,0)
 else if (readFrom p 65 [] 0).2.1≠0 then readFrom p 65 [] 0
 else if 0<opened (readFrom p 65 [] 0).1 then ([],11,p.size)
 else ((readFrom p 65 [] 0).1,0,0)
theorem closedFrom_step (l:List Tok) (c:Int) (k:Nat) (h:k<l.length):closedFrom l c (l.drop k) k=if isCap (l.getD k tok0)=true∧(l.getD k tok0).n=c then decide (closing l k<l.length) else closedFrom l c (l.drop (k+1)) (k+1):=by
 rw [drop_next l k h];rfl
theorem count_to (p:ByteArray) (i:Int) (h0:0≤i) (h:(count p i).2.2.2=true):i<(count p i).2.2.1∧(count p i).2.2.1≤p.size:=by
 have b1:=number_bd p (i+1)
 have b2:=number_bd p (i+1+(number p (i+1)).2+1)
 unfold count at h ⊢
 split at h
 ·simp at h
 ·rename_i h1
  split at h
  ·rename_i h2
   rw [if_neg h1,if_pos h2]
   have:=atB_ge p (i+1+(number p (i+1)).2) (by omega)
   simp only;omega
  ·rename_i h2
   split at h
   ·simp at h
   ·rename_i h3
    split at h
    ·rename_i h4
     rw [if_neg h1,if_neg h2,if_neg h3,if_pos h4]
     have:=atB_ge p (i+1+(number p (i+1)).2+1) (by omega)
     simp only;omega
    ·rename_i h4
     split at h
     ·simp at h
     ·rename_i h5
      rw [if_neg h1,if_neg h2,if_neg h3,if_neg h4,if_neg h5]
      have:=atB_ge p (i+1+(number p (i+1)).2+1+(number p (i+1+(number p (i+1)).2+1)).2) (by omega)
      simp only;omega
theorem mood_to (p:ByteArray) (t:Int) (h0:0≤t) (h:t≤p.size):t≤(mood p t).2∧(mood p t).2≤p.size:=by
 unfold mood
 split
 ·have:=atB_ge p t (by omega);simp only;omega
 ·split
  ·have:=atB_ge p t (by omega);simp only;omega
  ·simp only;omega
theorem repeat_to (p:ByteArray) (i:Int) (h0:0≤i) (h1:i<p.size) (h:(repeatT p i).2=true):i<(repeatT p i).1.to∧(repeatT p i).1.to≤p.size:=by
 have m1:=mood_to p (i+1) (by omega) (by omega)
 unfold repeatT at h ⊢
 split
 ·simp only;omega
 ·split
  ·simp only;omega
  ·split
   ·rename_i a b c
    rw [if_neg a,if_neg b,if_pos c] at h
    split at h
    ·rename_i d
     have k:=count_to p i h0 d
     have m2:=mood_to p (count p i).2.2.1 (by omega) (by omega)
     rw [if_pos d]
     simp only;omega
    ·simp at h
   ·simp only;omega
theorem opening_to (p:ByteArray) (i:Int) (h0:0≤i) (h1:i<p.size) (h:(opening p i).2=true):i<(opening p i).1.to∧(opening p i).1.to≤p.size:=by
 rcases opening_cases p i with ⟨a1,e⟩ | ⟨a1,⟨a2,e⟩ | ⟨a2,a3,e⟩ | ⟨a2,a3,a4,e⟩ | ⟨a2,a3,a4,a5,e⟩ | ⟨a2,a3,a4,a5,e⟩⟩
 ·rw [e];simp only;omega
 ·rw [e];have:=atB_ge p (i+2) (by rw [eq_of_beq a2];omega);simp only;omega
 ·rw [e];have:=atB_ge p (i+2) (by rw [eq_of_beq a3];omega);simp only;omega
 ·rw [e];have:=atB_ge p (i+2) (by rw [eq_of_beq a4];omega);simp only;omega
 ·rw [e];have:=atB_ge p (i+2) (by rw [eq_of_beq a5];omega);simp only;omega
 ·rw [e] at h;simp at h
theorem escape_to (p:ByteArray) (i:Int) (h0:0≤i) (h1:i<p.size) (h:(escape p i).2=true):i<(escape p i).1.to∧(escape p i).1.to≤p.size:=by
 rcases escape_cases p i with ⟨a1,e⟩ | ⟨a0,a1,⟨a2,e⟩ | ⟨a2,a3,e⟩ | ⟨a2,a3,a4,a5,a6,a7,e⟩ | ⟨a2,a3,a4,e⟩⟩
 ·rw [e] at h;simp at h
 all_goals
  rw [e];have:=atB_ge p (i+1) a0;simp only;omega
theorem class_to (p:ByteArray) (i:Int) (h0:0≤i) (h1:i<p.size) (h:(classT p i).2=true):i<(classT p i).1.to∧(classT p i).1.to≤p.size:=by
 have ha:i+1≤classA p i:=by unfold classA;split <;> omega
 have hb:=classFrom_bd p ((p.size:Int)-classA p i+1).toNat (classA p i) (by omega) (by omega)
 unfold classT at h ⊢
 split at h
 ·simp at h
 ·rename_i g
  rw [if_neg g]
  simp only;omega
theorem nextT_to (p:ByteArray) (i:Int) (h0:0≤i) (h1:i<p.size) (h:(nextT p i).2=0):i<(nextT p i).1.to∧(nextT p i).1.to≤p.size:=by
 unfold nextT at h ⊢
 split
 ·simp only;omega
 split
 ·simp only;omega
 split
 ·simp only;omega
 split
 ·simp only;omega
 split
 ·rename_i a b c d e
  rw [if_neg a,if_neg b,if_neg c,if_neg d,if_pos e] at h
  exact escape_to p i h0 h1 (by cases x:(escape p i).2 <;> simp [x] at h ⊢)
 split
 ·rename_i a b c d e f
  rw [if_neg a,if_neg b,if_neg c,if_neg d,if_neg e,if_pos f] at h
  exact class_to p i h0 h1 (by cases x:(classT p i).2 <;> simp [x] at h ⊢)
 split
 ·rename_i a b c d e f g
  rw [if_neg a,if_neg b,if_neg c,if_neg d,if_neg e,if_neg f,if_pos g] at h
  exact opening_to p i h0 h1 (by cases x:(opening p i).2 <;> simp [x] at h ⊢)
 split
 ·rename_i a b c d e f g k
  rw [if_neg a,if_neg b,if_neg c,if_neg d,if_neg e,if_neg f,if_neg g,if_pos k] at h
  exact repeat_to p i h0 h1 (by cases x:(repeatT p i).2 <;> simp [x] at h ⊢)
 split
 ·simp only;omega
 ·simp only;omega
def readOn (p:ByteArray) (l:List Tok) (i:Int):List Tok × Int × Int:=readFrom p ((p.size:Int)-i+1).toNat l i
theorem readFrom_fuel (p:ByteArray):∀ (f g:Nat) (l:List Tok) (i:Int),0≤i→(p.size:Int)-i<f→(p.size:Int)-i<g→i≤p.size→readFrom p f l i=readFrom p g l i:=by
 intro f
 induction f with
 | zero =>
  intro g l i h0 hf hg hi
  omega
 | succ f ih =>
  intro g l i h0 hf hg hi
  cases g with
  | zero=>omega
  | succ g =>
   simp only [readFrom]
   by_cases h1:(p.size:Int)≤i
   ·rw [if_pos h1,if_pos h1]
   ·rw [if_neg h1,if_neg h1]
    by_cases h2:(nextT p i).2≠0
    ·rw [if_pos h2,if_pos h2]
    ·rw [if_neg h2,if_neg h2]
     have:=nextT_to p i h0 (by omega) (by omega)
     split
     ·rfl
     ·exact ih g _ _ (by omega) (by omega) (by omega) (by omega)
theorem readOn_step (p:ByteArray) (l:List Tok) (i:Int) (h0:0≤i) (hi:i≤p.size):readOn p l i =
  if (p.size:Int)≤i then (l,0,i)
  else if (nextT p i).2≠0 then ([],(nextT p i).2,i)
  else if may l (nextT p i).1≠0 then ([],may l (nextT p i).1,i)
  else readOn p (l++[joined l (nextT p i).1]) (nextT p i).1.to:=by
 unfold readOn
 rw [show ((p.size:Int)-i+1).toNat=((p.size:Int)-i).toNat+1 by omega]
 simp only [readFrom]
 by_cases h1:(p.size:Int)≤i
 ·rw [if_pos h1,if_pos h1]
 ·rw [if_neg h1,if_neg h1]
  by_cases h2:(nextT p i).2≠0
  ·rw [if_pos h2,if_pos h2]
  ·rw [if_neg h2,if_neg h2]
   have:=nextT_to p i h0 (by omega) (by omega)
   split
   ·rfl
   ·exact readFrom_fuel p _ _ _ _ (by omega) (by omega) (by omega) (by omega)
theorem readOn_start (p:ByteArray) (h:p.size≤64):readFrom p 65 [] 0=readOn p [] 0:=readFrom_fuel p _ _ _ _ (by omega) (by omega) (by omega) (by omega)
structure Ins where
 op:Int
 x:Int
 y:Int
 set:List UInt8
def ins0:Ins:=⟨0,0,0,[]⟩
def movedI (i:Ins) (by':Int):Ins :=
 if i.op=2 then ⟨i.op,i.x+by',i.y+by',i.set⟩
 else if i.op=3∨i.op=5 then ⟨i.op,i.x+by',i.y,i.set⟩
 else if i.op=11 then ⟨i.op,i.x,i.y+by',i.set⟩
 else i
def moved (c:List Ins) (by':Int):List Ins:=c.map fun i=>movedI i by'
theorem moved_len (c:List Ins) (n:Int):(moved c n).length=c.length:=by simp [moved]
def behind (a b:List Ins):List Ins:=if 300<a.length then a else a++moved b a.length
def splitC (x y:Int) (late:Bool):List Ins:=if late then [⟨2,y,x,[]⟩] else [⟨2,x,y,[]⟩]
def fitI (M:Int) (i:Ins):Prop:=-M≤i.x∧i.x≤M∧-M≤i.y∧i.y≤M
def fit (M:Int) (c:List Ins):Prop:=(c.length:Int)≤M∧∀ i∈c,fitI M i
theorem fitI_mono {M N:Int} {i:Ins} (h:fitI M i) (hn:M≤N):fitI N i:=by unfold fitI at *;omega
theorem fit_nil {M:Int} (h:0≤M):fit M []:=⟨by simpa using h,fun j hj=>by simp at hj⟩
theorem fitI_moved {M n:Int} {i:Ins} (h:fitI M i) (h0:0≤n) (hn:n≤300):fitI (M+300) (movedI i n):=by
 unfold fitI at *
 unfold movedI
 split
 ·simp only;omega
 ·split
  ·simp only;omega
  ·split
   ·simp only;omega
   ·omega
def kindAt (l:List Tok) (k:Nat):Int:=(l.getD k tok0).kind
def barFrom (l:List Tok) (b:Nat):Nat→Nat→Nat
 | 0,_=>b
 | f+1,i =>
  if b≤i then b
  else if kindAt l i=5 then i
  else if kindAt l i=6 then barFrom l b f (closing l i+1)
  else barFrom l b f (i+1)
theorem barFrom_fuel (l:List Tok) (b:Nat):∀ (f g i:Nat),b-i≤f→b-i≤g→barFrom l b f i=barFrom l b g i:=by
 intro f
 induction f with
 | zero =>
  intro g i hf hg
  cases g with
  | zero=>rfl
  | succ g=>simp only [barFrom];rw [if_pos (by omega)]
 | succ f ih =>
  intro g i hf hg
  cases g with
  | zero=>simp only [barFrom];rw [if_pos (by omega)]
  | succ g =>
   simp only [barFrom]
   by_cases h:b≤i
   ·rw [if_pos h,if_pos h]
   ·rw [if_neg h,if_neg h]
    have hc:=closing_ge l i
    rw [ih g (closing l i+1) (by omega) (by omega),ih g (i+1) (by omega) (by omega)]
def bar (l:List Tok) (a b:Nat):Nat:=barFrom l b (b-a) a
theorem bar_step (l:List Tok) (i b:Nat):bar l i b =
  if b≤i then b else if kindAt l i=5 then i else if kindAt l i=6 then bar l (closing l i+1) b else bar l (i+1) b:=by
 have hc:=closing_ge l i
 by_cases h:b≤i
 ·rw [if_pos h];unfold bar;rw [show b-i=0 by omega];rfl
 ·rw [if_neg h];unfold bar
  rw [show b-i=(b-i-1)+1 by omega];simp only [barFrom];rw [if_neg h]
  rw [barFrom_fuel l b (b-i-1) (b-(closing l i+1)) (closing l i+1) (by omega) (by omega),barFrom_fuel l b (b-i-1) (b-(i+1)) (i+1) (by omega) (by omega)]
def after (l:List Tok) (i:Nat):Nat:=if kindAt l i=6 then closing l i+1 else i+1
def alone (sort:Int) (c:List Ins):List Ins:=behind (behind [⟨11,sort,c.length+2,[]⟩] c) [⟨12,0,0,[]⟩]
def loopC (y:List Ins) (d:Int) (late:Bool):List Ins:=behind (behind (behind (splitC 1 (y.length+3) late) [⟨4,d,0,[]⟩]) y) [⟨5,-y.length-2,d,[]⟩]
def upToFrom (x:List Ins) (late:Bool):Nat→List Ins→List Ins
 | 0,c=>c
 | n+1,c=>upToFrom x late n (behind c (behind (splitC 1 (((n:Int)+1)*(x.length+1)) late) x))
def upTo (x:List Ins) (k:Nat) (late:Bool):List Ins:=upToFrom x late k []
def timesFrom (x:List Ins):Nat→List Ins→List Ins
 | 0,c=>c
 | n+1,c=>timesFrom x n (behind c x)
def seqWith (at' rp:Nat→Nat→List Ins) (l:List Tok) (b:Nat):Nat→Nat→List Ins→List Ins
 | 0,_,c=>c
 | f+1,i,c =>
  if b≤i then c
  else if after l i<b∧kindAt l (after l i)=8 then seqWith at' rp l b f (after l i+1) (behind c (rp i (after l i)))
  else seqWith at' rp l b f (after l i) (behind c (at' i (after l i)))
def jumpC (n:Int):List Ins:=[⟨3,n,0,[]⟩]
def gen (l:List Tok):Nat→Nat→Nat→Nat→Int→List Ins
 | 0,_,_,_,_=>[]
 | f+1,0,a,b,d =>
  if bar l a b=b then gen l f 1 a (bar l a b) d
  else behind (behind (behind (splitC 1 ((gen l f 1 a (bar l a b) d).length+2) false) (gen l f 1 a (bar l a b) d)) (jumpC (1+(gen l f 0 (bar l a b+1) b d).length))) (gen l f 0 (bar l a b+1) b d)
 | f+1,1,a,b,d=>seqWith (fun i j=>gen l f 2 i j d) (fun i j=>gen l f 3 i j d) l b (b-a) a []
 | f+1,2,a,b,d =>
  if kindAt l a=1 then [⟨1,0,0,(l.getD a tok0).set⟩]
  else if kindAt l a=2 then [⟨8,(l.getD a tok0).n,0,[]⟩]
  else if kindAt l a=3 then [⟨9,0,0,[]⟩]
  else if kindAt l a=4 then [⟨10,0,0,[]⟩]
  else if (l.getD a tok0).how=3 then gen l f 0 (a+1) (b-1) d
  else if (l.getD a tok0).how=4 then behind (behind [⟨6,(l.getD a tok0).n,0,[]⟩] (gen l f 0 (a+1) (b-1) d)) [⟨7,(l.getD a tok0).n,0,[]⟩]
  else alone (l.getD a tok0).how (gen l f 0 (a+1) (b-1) d)
 | f+1,_+3,a,b,d =>
  let r:=l.getD b tok0
  let c1:=if 0<r.n∨0<r.m then
    (if r.n<r.m then behind (timesFrom (gen l f 2 a b d) r.n.toNat []) (upTo (gen l f 2 a b d) (r.m-r.n).toNat (decide (r.how=1))) else timesFrom (gen l f 2 a b d) r.n.toNat [])
   else []
  let c2:=if r.m<0 then behind c1 (loopC (gen l f 2 a b (d+1)) d (decide (r.how=1))) else c1
  if r.how=2 then alone 0 c2 else c2
def coded (l:List Tok):List Ins:=behind (gen l 283 0 0 l.length 0) [⟨13,0,0,[]⟩]
end Mt
