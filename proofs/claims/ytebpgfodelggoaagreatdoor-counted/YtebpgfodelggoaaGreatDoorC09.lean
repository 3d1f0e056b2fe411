import Derived.Test.YtebpgfodelggoaaGreatDoorC02
set_option linter.unusedVariables false
set_option linter.unusedSimpArgs false
namespace Mt
structure Stands (p p':ByteArray) (s:Int):Prop where
 lo:0≤s
 hi:(p.size:Int)+s<p'.size
 at':∀ j:Int,0≤j→j<p.size→atB p' (j+s)=atB p j
 stop:atB p' (p.size+s)=41
section
variable {p p':ByteArray} {s:Int}
theorem Stands.cases (h:Stands p p' s) (j:Int) (h0:0≤j) (h1:j≤p.size):(j<p.size∧atB p' (j+s)=atB p j∧0≤atB p j)∨(j=p.size∧atB p' (j+s)=41∧atB p j=-1):=by
 by_cases e:j<p.size
 ·exact Or.inl ⟨e,h.at' j h0 e,by rw [atB_in p j h0 e];omega⟩
 ·have:j=p.size:=by omega
  subst this
  exact Or.inr ⟨rfl,h.stop,atB_out p _ (Or.inr (Int.le_refl _))⟩
theorem number_sh (h:Stands p p' s) (i:Int) (h0:0≤i) (h1:i≤p.size):number p' (i+s)=number p i∧i+(number p i).2≤p.size:=by
 unfold number
 rcases h.cases i h0 h1 with ⟨a,b,c⟩ | ⟨a,b,c⟩
 ·rw [b]
  by_cases x:atB p i<48∨57<atB p i
  ·rw [if_pos x,if_pos x];exact ⟨rfl,by simp only;omega⟩
  ·rw [if_neg x,if_neg x]
   rw [show i+s+1=i+1+s by omega]
   rcases h.cases (i+1) (by omega) (by omega) with ⟨a',b',c'⟩ | ⟨a',b',c'⟩
   ·rw [b']
    split
    ·exact ⟨rfl,by simp only;omega⟩
    ·exact ⟨rfl,by simp only;omega⟩
   ·rw [b',c',if_pos (by omega),if_pos (by omega)];exact ⟨rfl,by simp only;omega⟩
 ·rw [b,c,if_pos (by omega),if_pos (by omega)];exact ⟨rfl,by simp only;omega⟩
theorem at_same (h:Stands p p' s) (j:Int) (h0:0≤j) (h1:j≤p.size) (v:Int) (hv:v≠41) (hv2:v≠-1):(atB p' (j+s)=v)↔(atB p j=v):=by
 rcases h.cases j h0 h1 with ⟨a,b,c⟩ | ⟨a,b,c⟩
 ·rw [b]
 ·rw [b,c];omega
theorem at_lt (j v:Int) (h0:0≤j) (hv:0≤v) (he:atB p j=v):j<p.size:=(atB_ge p j (by omega)).2
theorem mood_sh (h:Stands p p' s) (t:Int) (h0:0≤t) (h1:t≤p.size):mood p' (t+s)=((mood p t).1,(mood p t).2+s)∧(mood p t).2≤p.size∧t≤(mood p t).2:=by
 have e1:=at_same h t h0 h1 63 (by omega) (by omega)
 have e2:=at_same h t h0 h1 43 (by omega) (by omega)
 unfold mood
 by_cases a:atB p t=63
 ·rw [if_pos a,if_pos (e1.2 a)]
  have:=at_lt t 63 h0 (by omega) a
  exact ⟨by simp only [Prod.mk.injEq,true_and];omega,by simp only;omega,by simp only;omega⟩
 ·rw [if_neg a,if_neg (fun x=>a (e1.1 x))]
  by_cases b:atB p t=43
  ·rw [if_pos b,if_pos (e2.2 b)]
   have:=at_lt t 43 h0 (by omega) b
   exact ⟨by simp only [Prod.mk.injEq,true_and];omega,by simp only;omega,by simp only;omega⟩
  ·rw [if_neg b,if_neg (fun x=>b (e2.1 x))]
   exact ⟨rfl,h1,Int.le_refl _⟩
theorem count_sh (h:Stands p p' s) (i:Int) (h0:0≤i) (h1:i<p.size) (hc:(count p i).2.2.2=true) :
  count p' (i+s)=((count p i).1,(count p i).2.1,(count p i).2.2.1+s,true)∧(count p i).2.2.1≤p.size∧i<(count p i).2.2.1:=by
 obtain ⟨n1,n2⟩:=number_sh h (i+1) (by omega) (by omega)
 have nb:=number_bd p (i+1)
 unfold count at hc ⊢
 rw [show i+s+1=i+1+s by omega,n1]
 generalize number p (i+1)=N at *
 by_cases a:N.2=0∨20<N.1
 ·rw [if_pos a] at hc;simp at hc
 rw [if_neg a] at hc ⊢
 rw [if_neg a]
 rw [show i+1+s+N.2=i+1+N.2+s by omega]
 have q1:=at_same h (i+1+N.2) (by omega) n2 125 (by omega) (by omega)
 have q2:=at_same h (i+1+N.2) (by omega) n2 44 (by omega) (by omega)
 by_cases b:atB p (i+1+N.2)=125
 ·rw [if_pos b,if_pos (q1.2 b)]
  have:=at_lt _ 125 (by omega) (by omega) b
  exact ⟨by simp only [Prod.mk.injEq,true_and,and_true];omega,by simp only;omega,by simp only;omega⟩
 rw [if_neg b] at hc ⊢
 rw [if_neg (fun x=>b (q1.1 x))]
 by_cases c:atB p (i+1+N.2)≠44
 ·rw [if_pos c] at hc;simp at hc
 have c':atB p (i+1+N.2)=44:=by omega
 rw [if_neg c] at hc ⊢
 rw [if_neg (fun x=>c (fun y=>x (q2.2 y)))]
 have l1:=at_lt _ 44 (by omega) (by omega) c'
 rw [show i+1+N.2+s+1=i+1+N.2+1+s by omega]
 have q3:=at_same h (i+1+N.2+1) (by omega) (by omega) 125 (by omega) (by omega)
 by_cases e:atB p (i+1+N.2+1)=125
 ·rw [if_pos e,if_pos (q3.2 e)]
  have:=at_lt _ 125 (by omega) (by omega) e
  exact ⟨by simp only [Prod.mk.injEq,true_and,and_true];omega,by simp only;omega,by simp only;omega⟩
 rw [if_neg e] at hc ⊢
 rw [if_neg (fun x=>e (q3.1 x))]
 obtain ⟨m1,m2⟩:=number_sh h (i+1+N.2+1) (by omega) (by omega)
 have mb:=number_bd p (i+1+N.2+1)
 rw [m1]
 generalize number p (i+1+N.2+1)=M at *
 rw [show i+1+N.2+1+s+M.2=i+1+N.2+1+M.2+s by omega]
 have q4:=at_same h (i+1+N.2+1+M.2) (by omega) m2 125 (by omega) (by omega)
 by_cases f:M.2=0∨20<M.1∨M.1<N.1∨atB p (i+1+N.2+1+M.2)≠125
 ·rw [if_pos f] at hc;simp at hc
 ·rw [if_neg f]
  have f4:atB p (i+1+N.2+1+M.2)=125:=by omega
  have:=at_lt _ 125 (by omega) (by omega) f4
  rw [if_neg (fun x=>f (by rcases x with x | x | x | x;exact Or.inl x;exact Or.inr (Or.inl x);exact Or.inr (Or.inr (Or.inl x));exact absurd (q4.2 f4) x))]
  exact ⟨by simp only [Prod.mk.injEq,true_and,and_true];omega,by simp only;omega,by simp only;omega⟩
theorem classByte_sh (h:Stands p p' s) (i:Int) (h0:0≤i) (hc:(classByte p i).2≠0):classByte p' (i+s)=classByte p i∧i+(classByte p i).2≤p.size:=by
 unfold classByte at hc ⊢
 by_cases a:atB p i<0∨atB p i=93∨atB p i=45
 ·rw [if_pos a] at hc;simp at hc
 rw [if_neg a] at hc ⊢
 have l:=(atB_ge p i (by omega)).2
 rw [h.at' i h0 l,if_neg a]
 by_cases b:atB p i≠92
 ·rw [if_pos b,if_pos b];exact ⟨rfl,by simp only;omega⟩
 rw [if_neg b] at hc ⊢
 rw [if_neg b]
 by_cases c:atB p (i+1)<0∨digB (atB p (i+1))=true∨letB (atB p (i+1))=true
 ·rw [if_pos c] at hc;simp at hc
 rw [if_neg c] at hc ⊢
 have l2:=(atB_ge p (i+1) (by omega)).2
 rw [show i+s+1=i+1+s by omega,h.at' (i+1) (by omega) l2,if_neg c]
 exact ⟨rfl,by simp only;omega⟩
theorem item_sh (h:Stands p p' s) (i:Int) (h0:0≤i) (hc:(item p i).2.2.1≠0):item p' (i+s)=item p i∧i+(item p i).2.2.1≤p.size:=by
 unfold item at hc ⊢
 by_cases a:atB p i=92∧(atB p (i+1)=100∨atB p (i+1)=119)
 ·have l:=(atB_ge p i (by omega)).2
  have l2:=(atB_ge p (i+1) (by omega)).2
  rw [if_pos a,show i+s+1=i+1+s by omega,h.at' i h0 l,h.at' (i+1) (by omega) l2,if_pos a]
  exact ⟨rfl,by simp only;omega⟩
 rw [if_neg a] at hc ⊢
 by_cases b:(classByte p i).2=0
 ·rw [if_pos b] at hc;simp at hc
 obtain ⟨k1,k2⟩:=classByte_sh h i h0 b
 have kb:=classByte_bd p i
 have l:i<p.size:=by omega
 have na:¬ (atB p' (i+s)=92∧(atB p' (i+s+1)=100∨atB p' (i+s+1)=119)):=by
  rw [h.at' i h0 l,show i+s+1=i+1+s by omega]
  rintro ⟨x,y⟩
  have e1:=at_same h (i+1) (by omega) (by omega) 100 (by omega) (by omega)
  have e2:=at_same h (i+1) (by omega) (by omega) 119 (by omega) (by omega)
  exact a ⟨x,y.elim (fun y=>Or.inl (e1.1 y)) (fun y=>Or.inr (e2.1 y))⟩
 rw [if_neg na,k1]
 rw [if_neg b] at hc ⊢
 generalize hK:classByte p i=K at *
 rw [show i+s+K.2=i+K.2+s by omega,if_neg b]
 have q:=at_same h (i+K.2) (by omega) k2 45 (by omega) (by omega)
 by_cases c:atB p (i+K.2)≠45
 ·rw [if_pos c,if_pos (fun x=>c (q.1 x))]
  exact ⟨rfl,by simp only;omega⟩
 have c':atB p (i+K.2)=45:=by omega
 rw [if_neg c] at hc ⊢
 rw [if_neg (fun x=>x (q.2 c'))]
 by_cases d:(classByte p (i+K.2+1)).2=0∨(classByte p (i+K.2+1)).1<K.1
 ·rw [if_pos d] at hc;simp at hc
 obtain ⟨m1,m2⟩:=classByte_sh h (i+K.2+1) (by omega) (fun x=>d (Or.inl x))
 rw [show i+K.2+s+1=i+K.2+1+s by omega,m1,if_neg d]
 exact ⟨rfl,by simp only;omega⟩
theorem classFrom_sh (h:Stands p p' s):∀ (f:Nat) (b:Int),(p.size:Int)-b<f→0≤b→classFrom p b≠-1→classFrom p' (b+s)=classFrom p b+s∧∀ c,inClass p' (b+s) (classFrom p b+s) c=inClass p b (classFrom p b) c
 | 0,b,hf,h0,hc=>by rw [classFrom_step,if_pos (by omega)] at hc;exact absurd rfl hc
 | f+1,b,hf,h0,hc=>by
  have hbd:=classFrom_bd p (((p.size:Int)-b+1).toNat+1) b (by omega) h0
  have ib:=item_bd p b
  have st:=classFrom_step p b
  have st':=classFrom_step p' (b+s)
  by_cases a:(p.size:Int)≤b
  ·rw [if_pos a] at st;exact absurd st hc
  rw [if_neg a] at st
  rw [if_neg (by have:=h.hi;omega)] at st'
  rw [h.at' b h0 (by omega)] at st'
  by_cases e:atB p b=93
  ·rw [if_pos e] at st st'
   rw [st,st']
   exact ⟨rfl,fun c=>by rw [inClass_step p',if_pos (Int.le_refl _),inClass_step p,if_pos (Int.le_refl _)]⟩
  rw [if_neg e] at st st'
  by_cases z:(item p b).2.2.1=0
  ·rw [if_pos z] at st;exact absurd st hc
  rw [if_neg z] at st
  obtain ⟨i1,i2⟩:=item_sh h b h0 z
  rw [i1,if_neg z,show b+s+(item p b).2.2.1=b+(item p b).2.2.1+s by omega] at st'
  have hc2:classFrom p (b+(item p b).2.2.1)≠-1:=by rw [← st];exact hc
  obtain ⟨r1,r2⟩:=classFrom_sh h f (b+(item p b).2.2.1) (by omega) (by omega) hc2
  have bd2:=classFrom_bd p (((p.size:Int)-b+1).toNat+1) (b+(item p b).2.2.1) (by omega) (by omega)
  rw [st',st]
  refine ⟨r1,fun c=>?_⟩
  have R:=inClass_step p b (classFrom p (b+(item p b).2.2.1)) c
  have S:=inClass_step p' (b+s) (classFrom p (b+(item p b).2.2.1)+s) c
  rw [if_neg (by omega),if_neg z] at R
  rw [if_neg (by omega),i1,if_neg z,show b+s+(item p b).2.2.1=b+(item p b).2.2.1+s by omega,r2] at S
  rw [S,R]
theorem all_of {a b a' b':Int} (no:Bool) (h:∀ c,inClass p' a' b' c=inClass p a b c):all p' a' b' no=all p a b no:=by
 unfold all allTo;simp only [h]
def mv (s:Int) (t:Tok):Tok:={ t with frm:=t.frm+s,to:=t.to+s }
theorem next_sh (h:Stands p p' s) (i:Int) (h0:0≤i) (h1:i<p.size) (hn:(nextT p i).2=0):nextT p' (i+s)=(mv s (nextT p i).1,0)∧i<(nextT p i).1.to∧(nextT p i).1.to≤p.size:=by
 have e0:=h.at' i h0 h1
 unfold nextT at hn ⊢
 rw [e0]
 by_cases a1:atB p i=124
 ·rw [if_pos a1,if_pos a1];exact ⟨by simp [mv];omega,by simp only;omega,by simp only;omega⟩
 rw [if_neg a1] at hn ⊢
 rw [if_neg a1]
 by_cases a2:atB p i=41
 ·rw [if_pos a2,if_pos a2];exact ⟨by simp [mv];omega,by simp only;omega,by simp only;omega⟩
 rw [if_neg a2] at hn ⊢
 rw [if_neg a2]
 by_cases a3:atB p i=94
 ·rw [if_pos a3,if_pos a3];exact ⟨by simp [mv];omega,by simp only;omega,by simp only;omega⟩
 rw [if_neg a3] at hn ⊢
 rw [if_neg a3]
 by_cases a4:atB p i=36
 ·rw [if_pos a4,if_pos a4];exact ⟨by simp [mv];omega,by simp only;omega,by simp only;omega⟩
 rw [if_neg a4] at hn ⊢
 rw [if_neg a4]
 by_cases a5:atB p i=92
 ·rw [if_pos a5] at hn ⊢
  rw [if_pos a5]
  have hk:(escape p i).2=true:=by
   cases x:(escape p i).2
   ·rw [x] at hn;simp at hn
   ·rfl
  have l2:i+1<p.size:=by
   unfold escape at hk
   by_cases b:atB p (i+1)<0
   ·rw [if_pos b] at hk;simp at hk
   ·exact (atB_ge p (i+1) (by omega)).2
  have e1:=h.at' (i+1) (by omega) l2
  have key:escape p' (i+s)=(mv s (escape p i).1,(escape p i).2)∧(escape p i).1.to=i+2:=by
   unfold escape
   rw [show i+s+1=i+1+s by omega,e1]
   by_cases b:atB p (i+1)<0
   ·rw [if_pos b,if_pos b];exact ⟨by simp [mv];omega,rfl⟩
   rw [if_neg b,if_neg b]
   by_cases c:atB p (i+1)=100∨atB p (i+1)=119
   ·rw [if_pos c,if_pos c]
    have hit:(item p i).2.2.1≠0:=by unfold item;rw [if_pos ⟨a5,c⟩];simp
    have hit2:(item p i).2.2.1=2:=by unfold item;rw [if_pos ⟨a5,c⟩]
    obtain ⟨i1,i2⟩:=item_sh h i h0 hit
    have ea:all p' (i+s) (i+s+2) false=all p i (i+2) false:=all_of false (fun v=>by
     have R:=inClass_step p i (i+2) v
     have S:=inClass_step p' (i+s) (i+s+2) v
     have R2:=inClass_step p (i+2) (i+2) v
     have S2:=inClass_step p' (i+s+2) (i+s+2) v
     rw [if_pos (Int.le_refl _)] at R2 S2
     rw [if_neg (by omega),if_neg hit,hit2,R2] at R
     rw [if_neg (by omega),i1,if_neg hit,hit2,S2] at S
     rw [S,R])
    rw [ea]
    exact ⟨by simp [mv];omega,rfl⟩
   rw [if_neg c,if_neg c]
   split
   ·exact ⟨by simp [mv];omega,rfl⟩
   ·exact ⟨by simp [mv];omega,rfl⟩
  rw [key.1,key.2,hk]
  exact ⟨rfl,by omega,by omega⟩
 rw [if_neg a5] at hn ⊢
 rw [if_neg a5]
 by_cases a6:atB p i=91
 ·rw [if_pos a6] at hn ⊢
  rw [if_pos a6]
  have hk:(classT p i).2=true:=by
   cases x:(classT p i).2
   ·rw [x] at hn;simp at hn
   ·rfl
  have hA:classA p' (i+s)=classA p i+s:=by
   unfold classA
   rw [show i+s+1=i+1+s by omega]
   have e:=at_same h (i+1) (by omega) (by omega) 94 (by omega) (by omega)
   by_cases b:atB p (i+1)=94
   ·rw [if_pos b,if_pos (e.2 b)];omega
   ·rw [if_neg b,if_neg (fun x=>b (e.1 x))]
  have hA0:i<classA p i:=by unfold classA;split <;> omega
  unfold classT at hk ⊢
  by_cases b:classFrom p (classA p i)=-1∨classFrom p (classA p i)=classA p i
  ·rw [if_pos b] at hk;simp at hk
  obtain ⟨c1,c2⟩:=classFrom_sh h (((p.size:Int)-classA p i+1).toNat+1) (classA p i) (by omega) (by omega) (fun x=>b (Or.inl x))
  have bd:=classFrom_bd p (((p.size:Int)-classA p i+1).toNat+1) (classA p i) (by omega) (by omega)
  have en:decide (atB p' (i+s+1)=94)=decide (atB p (i+1)=94):=by
   rw [show i+s+1=i+1+s by omega]
   have e:=at_same h (i+1) (by omega) (by omega) 94 (by omega) (by omega)
   exact decide_eq_decide.2 e
  have hs0:=h.lo
  rw [if_neg b,hA,c1,if_neg (by omega),en,all_of _ c2]
  exact ⟨by simp [mv];omega,by simp only;omega,by simp only;omega⟩
 rw [if_neg a6] at hn ⊢
 rw [if_neg a6]
 by_cases a7:atB p i=40
 ·rw [if_pos a7] at hn ⊢
  rw [if_pos a7]
  have hk:(opening p i).2=true:=by
   cases x:(opening p i).2
   ·rw [x] at hn;simp at hn
   ·rfl
  unfold opening at hk ⊢
  rw [show i+s+1=i+1+s by omega,show i+s+2=i+2+s by omega]
  have e:=at_same h (i+1) (by omega) (by omega) 63 (by omega) (by omega)
  by_cases b:atB p (i+1)≠63
  ·rw [if_pos b,if_pos (fun x=>b (e.1 x))]
   exact ⟨by simp [mv],by simp only;omega,by simp only;omega⟩
  have b':atB p (i+1)=63:=by omega
  have l1:=at_lt _ 63 (by omega) (by omega) b'
  rw [if_neg b] at hk ⊢
  rw [if_neg (fun x=>x (e.2 b'))]
  have f1:=at_same h (i+2) (by omega) (by omega) 58 (by omega) (by omega)
  have f2:=at_same h (i+2) (by omega) (by omega) 62 (by omega) (by omega)
  have f3:=at_same h (i+2) (by omega) (by omega) 61 (by omega) (by omega)
  have f4:=at_same h (i+2) (by omega) (by omega) 33 (by omega) (by omega)
  by_cases c1:atB p (i+2)=58
  ·have:=at_lt _ 58 (by omega) (by omega) c1
   rw [if_pos c1,if_pos (f1.2 c1)];exact ⟨by simp [mv];omega,by simp only;omega,by simp only;omega⟩
  rw [if_neg c1] at hk ⊢
  rw [if_neg (fun x=>c1 (f1.1 x))]
  by_cases c2:atB p (i+2)=62
  ·have:=at_lt _ 62 (by omega) (by omega) c2
   rw [if_pos c2,if_pos (f2.2 c2)];exact ⟨by simp [mv];omega,by simp only;omega,by simp only;omega⟩
  rw [if_neg c2] at hk ⊢
  rw [if_neg (fun x=>c2 (f2.1 x))]
  by_cases c3:atB p (i+2)=61
  ·have:=at_lt _ 61 (by omega) (by omega) c3
   rw [if_pos c3,if_pos (f3.2 c3)];exact ⟨by simp [mv];omega,by simp only;omega,by simp only;omega⟩
  rw [if_neg c3] at hk ⊢
  rw [if_neg (fun x=>c3 (f3.1 x))]
  by_cases c4:atB p (i+2)=33
  ·have:=at_lt _ 33 (by omega) (by omega) c4
   rw [if_pos c4,if_pos (f4.2 c4)];exact ⟨by simp [mv];omega,by simp only;omega,by simp only;omega⟩
  ·rw [if_neg c4] at hk;simp at hk
 rw [if_neg a7] at hn ⊢
 rw [if_neg a7]
 by_cases a8:atB p i=42∨atB p i=43∨atB p i=63∨atB p i=123
 ·rw [if_pos a8] at hn ⊢
  rw [if_pos a8]
  have hk:(repeatT p i).2=true:=by
   cases x:(repeatT p i).2
   ·rw [x] at hn;simp at hn
   ·rfl
  obtain ⟨m1,m2,m3⟩:=mood_sh h (i+1) (by omega) (by omega)
  unfold repeatT at hk ⊢
  rw [e0,show i+s+1=i+1+s by omega,m1]
  by_cases b1:atB p i=43
  ·rw [if_pos b1,if_pos b1];exact ⟨by simp [mv],by simp only;omega,by simp only;omega⟩
  rw [if_neg b1] at hk ⊢
  rw [if_neg b1]
  by_cases b2:atB p i=63
  ·rw [if_pos b2,if_pos b2];exact ⟨by simp [mv],by simp only;omega,by simp only;omega⟩
  rw [if_neg b2] at hk ⊢
  rw [if_neg b2]
  by_cases b3:atB p i=123
  ·rw [if_pos b3] at hk ⊢
   rw [if_pos b3]
   have hc:(count p i).2.2.2=true:=by
    cases x:(count p i).2.2.2
    ·rw [x] at hk;simp at hk
    ·rfl
   obtain ⟨k1,k2,k3⟩:=count_sh h i h0 h1 hc
   obtain ⟨n1,n2,n3⟩:=mood_sh h (count p i).2.2.1 (by omega) k2
   rw [k1,hc]
   simp only [if_true]
   rw [n1]
   exact ⟨by simp [mv],by omega,by omega⟩
  ·rw [if_neg b3,if_neg b3];exact ⟨by simp [mv],by simp only;omega,by simp only;omega⟩
 rw [if_neg a8] at hn ⊢
 rw [if_neg a8]
 by_cases a9:atB p i=46
 ·rw [if_pos a9,if_pos a9]
  rw [all_of (p:=p) (a:=i) (b:=i) true (fun c=>by rw [inClass_step p',if_pos (Int.le_refl _),inClass_step p,if_pos (Int.le_refl _)])]
  exact ⟨by simp [mv];omega,by simp only;omega,by simp only;omega⟩
 ·rw [if_neg a9,if_neg a9];exact ⟨by simp [mv];omega,by simp only;omega,by simp only;omega⟩
end
abbrev BSet:=Nat→Bool
def none0:BSet:=fun _=>false
def addR (S:BSet) (a b:Int):BSet:=fun c=>S c||(decide (a≤(c:Int))&&decide ((c:Int)≤b))
def addTo (S:BSet) (a b:Int) (k:Nat):BSet:=fun c=>if c<k then addR S a b c else S c
theorem addTo_zero (S:BSet) (a b:Int):addTo S a b 0=S:=by funext c;simp [addTo]
theorem addTo_hit (S:BSet) (a b:Int) (k:Nat) (h:a≤(k:Int)∧(k:Int)≤b):addTo S a b (k+1)=fun c=>if c=k then true else addTo S a b k c:=by
 funext c
 simp only [addTo,addR]
 by_cases e:c=k
 ·subst e;simp [h]
 ·rw [if_neg e]
  by_cases l:c<k
  ·rw [if_pos (by omega),if_pos l]
  ·rw [if_neg (by omega),if_neg l]
theorem addTo_miss (S:BSet) (a b:Int) (k:Nat) (h:¬ (a≤(k:Int)∧(k:Int)≤b)):addTo S a b (k+1)=addTo S a b k:=by
 funext c
 simp only [addTo,addR]
 by_cases e:c=k
 ·subst e
  rw [if_pos (by omega),if_neg (by omega)]
  have:(decide (a≤(c:Int))&&decide ((c:Int)≤b))=false:=by
   rw [← Bool.decide_and];simpa using h
  rw [this];simp
 ·by_cases l:c<k
  ·rw [if_pos (by omega),if_pos l]
  ·rw [if_neg (by omega),if_neg l]
def sameB (S T:BSet):Prop:=∀ c,c<256→S c=T c
theorem addTo_end (S:BSet) (a b:Int):sameB (addTo S a b 256) (addR S a b):=fun c h=>by simp [addTo,h]
def notTo (S:BSet) (k:Nat):BSet:=fun c=>if c<k then !S c else S c
theorem notTo_next (S:BSet) (k:Nat):notTo S (k+1)=fun c=>if c=k then !(S k) else notTo S k c:=by
 funext c
 simp only [notTo]
 by_cases e:c=k
 ·subst e;simp
 ·rw [if_neg e]
  by_cases l:c<k
  ·rw [if_pos (by omega),if_pos l]
  ·rw [if_neg (by omega),if_neg l]
def setTo (S:BSet) (n:Nat):List UInt8:=((List.range n).filter S).map UInt8.ofNat
theorem setTo_hit {S:BSet} {n:Nat} (h:S n=true):setTo S (n+1)=setTo S n++[UInt8.ofNat n]:=by
 unfold setTo
 rw [List.range_succ,List.filter_append,List.map_append]
 congr 1
 rw [List.filter_cons,if_pos h];rfl
theorem setTo_miss {S:BSet} {n:Nat} (h:S n=false):setTo S (n+1)=setTo S n:=by
 unfold setTo
 rw [List.range_succ,List.filter_append,List.map_append,List.filter_cons,if_neg (by simp [h])];simp
theorem setTo_len (S:BSet) (n:Nat):(setTo S n).length≤n:=by
 unfold setTo;rw [List.length_map];exact Nat.le_trans (List.length_filter_le _ _) (by simp)
theorem setTo_same {S T:BSet} (h:sameB S T):setTo S 256=setTo T 256:=by
 unfold setTo
 congr 1
 apply List.filter_congr
 intro c hc
 exact h c (by simpa using hc)
theorem setTo_all (p:ByteArray) (a b:Int) (no:Bool):setTo (fun c=>inClass p a b (c:Int) != no) 256=all p a b no:=rfl
theorem filter_one (c:Nat):∀ n,(List.range n).filter (fun k:Nat=>decide (k=c))=if c<n then [c] else []
 | 0=>by simp
 | n+1=>by
  rw [List.range_succ,List.filter_append,filter_one c n]
  by_cases e:n=c
  ·subst e;simp
  ·by_cases l:c<n
   ·rw [if_pos l,if_pos (by omega)];simp [e]
   ·rw [if_neg l,if_neg (by omega)];simp [e]
theorem set_one (c:Int) (h0:0≤c) (h1:c≤255):setTo (addR none0 c c) 256=[UInt8.ofNat c.toNat]:=by
 have:setTo (addR none0 c c) 256=setTo (fun k=>decide (k=c.toNat)) 256:=by
  refine setTo_same (fun k hk=>?_)
  simp only [addR,none0,Bool.false_or]
  rw [← Bool.decide_and]
  congr 1
  exact propext ⟨fun h=>by omega,fun h=>by omega⟩
 rw [this]
 unfold setTo
 rw [filter_one,if_pos (by omega)];rfl
theorem inClass_empty (p:ByteArray) (i c:Int):inClass p i i c=false:=by rw [inClass_step,if_pos (Int.le_refl _)]
theorem set_any (p:ByteArray) (i:Int):setTo (addR none0 0 255) 256=all p i i true:=by
 rw [← setTo_all]
 refine setTo_same (fun k hk=>?_)
 rw [inClass_empty]
 simp [addR,none0];omega
def addL (S:BSet) (w:Bool):BSet:=if w then addR (addR (addR (addR S 48 57) 65 90) 95 95) 97 122 else addR S 48 57
theorem addL_short (S:BSet) (w:Bool) (c:Nat):addL S w c=(S c||shortB w (c:Int)):=by
 unfold addL shortB digB letB
 cases w
 ·simp [addR]
 ·simp only [addR,if_true,Bool.true_and]
  by_cases h1:48≤(c:Int)∧(c:Int)≤57 <;> by_cases h2:65≤(c:Int)∧(c:Int)≤90 <;> by_cases h3:97≤(c:Int)∧(c:Int)≤122 <;> by_cases h4:(c:Int)=95
  all_goals
   simp only [← Bool.decide_and]
   have h5:(95≤(c:Int)∧(c:Int)≤95)↔(c:Int)=95:=by omega
   simp only [h5,h1,h2,h3,h4]
   simp
def addI (p:ByteArray) (i:Int) (S:BSet):BSet :=
 if (item p i).2.2.2 then addL S (decide ((item p i).2.1=119)) else addR S (item p i).1 (item p i).2.1
theorem addI_in (p:ByteArray) (i b:Int) (S:BSet) (c:Nat) (h:i<b) (h0:(item p i).2.2.1≠0):(S c||inClass p i b (c:Int))=(addI p i S c||inClass p (i+(item p i).2.2.1) b (c:Int)):=by
 rw [inClass_step,if_neg (by omega),if_neg h0]
 unfold addI
 cases hw:(item p i).2.2.2
 ·simp only [Bool.false_eq_true,if_false]
  by_cases h1:(item p i).1≤(c:Int)∧(c:Int)≤(item p i).2.1
  ·rw [if_pos h1];simp [addR,h1]
  ·rw [if_neg h1]
   have:(decide ((item p i).1≤(c:Int))&&decide ((c:Int)≤(item p i).2.1))=false:=by rw [← Bool.decide_and];simpa using h1
   simp only [addR,this,Bool.or_false]
 ·simp only [if_true]
  rw [addL_short]
  cases hs:shortB (decide ((item p i).2.1=119)) (c:Int) <;> simp
structure PT where
 kind:Int
 en:Int
 group:Int
 number:Int
 least:Int
 most:Int
 mood:Int
 set:List UInt8
def pt0:PT:=⟨0,0,0,0,0,0,0,[]⟩
def kindP (k:Int):Int:=if k=1 then 5 else if k=2 then 6 else if k=3 then 7 else if k=4 then 8 else if k=5 then 1 else if k=6 then 2 else if k=7 then 3 else if k=8 then 4 else 0
def grpP (h:Int):Int:=if h=4 then 1 else if h=3 then 2 else h+3
def ptok (t:Tok):PT :=
 ⟨kindP t.kind,t.to,if t.kind=6 then grpP t.how else 0,if t.kind=2 then t.n else 0,if t.kind=8 then t.n else 0,if t.kind=8 then t.m else 0,if t.kind=8 then t.how+1 else 0,t.set⟩
def readP (p:ByteArray) (i:Int):PT × Int:=if (nextT p i).2=0 then (ptok (nextT p i).1,0) else (pt0,(nextT p i).2)
end Mt
