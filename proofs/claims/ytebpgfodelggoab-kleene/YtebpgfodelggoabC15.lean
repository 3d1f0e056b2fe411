import Derived.Test.YtebpgfodelggoabC14
set_option linter.unusedVariables false
set_option linter.unusedSimpArgs false
namespace Mt
variable {E:Env} {A:Int→Att}
structure Lk (A:Int→Att) (s u:Sta):Prop where
 pc:gt u 0=gt s 0
 pos:gt u 1=gt s 1
 eq:∀ j:Nat,(j:Int)<(A (gt s 0)).d→(gt s (32+j)=gt s 1↔gt u (32+j)=gt s 1)
theorem Lk.ins {s u:Sta} (h:Lk A s u):E.ins u=E.ins s:=by unfold Env.ins pcOf;rw [h.pc]
theorem Lk.to {s u:Sta} {v:Int} (h:Lk A s u) (ls:s.length=44) (lu:u.length=44) (e:A v=A (gt s 0)):Lk A (s.set 0 v) (u.set 0 v):=by
 refine ⟨by rw [gt_pc0 ls,gt_pc0 lu],by rw [gt_pc (by omega),gt_pc (by omega)];exact h.pos,fun j hj=>?_⟩
 rw [gt_pc0 ls,e] at hj
 rw [gt_pc (by omega),gt_pc (by omega),gt_pc (by omega)]
 exact h.eq j hj
def Idle (E:Env) (kn:List Bool) (room:Int):Prop:=∀ s,E.dead s kn=false∧E.kn' s kn room=kn∧E.room' s kn room=room
theorem upward {p:Nat→Bool}:∀ (k:Nat),(∀ i j,i≤j→j<k→p i=true→p j=true)→∀ j,j<k→(p j=true↔k≤j+(List.range k).countP p)
 | 0,_,j,hj=>by omega
 | k+1,h,j,hj=>by
  have ih:=upward k fun i j hij hj=>h i j hij (by omega)
  rw [List.range_succ,List.countP_append]
  have hle:(List.range k).countP p≤k:=Nat.le_trans List.countP_le_length (by simp)
  have e1:[k].countP p=if p k=true then 1 else 0:=by simp [List.countP_cons]
  rw [e1]
  by_cases hk:p k=true
  ·rw [if_pos hk]
   by_cases ej:j=k
   ·subst ej;exact ⟨fun _=>by omega,fun _=>hk⟩
   ·rw [ih j (by omega)];omega
  ·rw [if_neg hk]
   have h0:(List.range k).countP p=0:=by
    rw [List.countP_eq_zero]
    intro a ha he
    rw [List.mem_range] at ha
    exact hk (h a k (by omega) (by omega) he)
   rw [h0]
   constructor
   ·intro he;exact absurd (h j k (by omega) (by omega) he) hk
   ·intro he;omega
theorem lk_of_key (hK:Kn E.c A) (har:∀ p,p<E.c.length→E.ar.getD p 0=loopsAt E.c p) {s u:Sta} (hs:Nice E A s) (hu:Nice E A u) (h:E.key u=E.key s):Lk A s u∧mu E A u=mu E A s:=by
 have ps:=hs.g.pcOf_lt
 have pu:=hu.g.pcOf_lt
 have a0:=hs.g.pc0;have a1:=hs.g.pos0;have a2:=hs.g.pos1
 have b0:=hu.g.pc0;have b1:=hu.g.pos0;have b2:=hu.g.pos1
 have cs:=hs.g.pc1;have cu:=hu.g.pc1
 have dsx:=hK.dOk a0 cs
 have dux:=hK.dOk b0 cu
 have hps:((pcOf s:Nat):Int)=gt s 0:=by unfold pcOf;omega
 have hpu:((pcOf u:Nat):Int)=gt u 0:=by unfold pcOf;omega
 have ds:=hK.k.loops _ ps
 have du:=hK.k.loops _ pu
 rw [hps] at ds
 rw [hpu] at du
 unfold Env.key keyOf at h
 rw [har _ ps,har _ pu,Int.toNat_natCast,Int.toNat_natCast] at h
 have l1:=lev_le s (loopsAt E.c (pcOf s))
 have l2:=lev_le u (loopsAt E.c (pcOf u))
 obtain ⟨e1,e2,e3⟩:=key_inj (T:=E.t.size) (by unfold posOf;omega) (by omega) (by unfold posOf;omega) (by omega) h
 have epc:gt u 0=gt s 0:=by omega
 have epos:gt u 1=gt s 1:=by unfold posOf at e2;omega
 have ed:(A (gt s 0)).d.toNat=min (loopsAt E.c (pcOf s)) 12:=by omega
 have ed':(A (gt s 0)).d.toNat=min (loopsAt E.c (pcOf u)) 12:=by rw [← epc];omega
 unfold lev at e3
 rw [← ed,← ed'] at e3
 have hcs:=cnt_level (A (gt s 0)).d.toNat s
 have hcu:=cnt_level (A (gt s 0)).d.toNat u
 refine ⟨⟨epc,epos,fun j hj=>?_⟩,?_⟩
 ·have u1:=upward (p:=fun j=>gt s (32+j)==gt s 1) (A (gt s 0)).d.toNat (fun i j hij hj e=>by
   have e':gt s (32+i)=gt s 1:=by simpa using e
   have m1:=hs.mono i j hij (by omega)
   have m2:=hs.le j (by omega)
   have:gt s (32+j)=gt s 1:=by omega
   simpa using this) j (by omega)
  have u2:=upward (p:=fun j=>gt u (32+j)==gt u 1) (A (gt s 0)).d.toNat (fun i j hij hj e=>by
   have e':gt u (32+i)=gt u 1:=by simpa using e
   have m1:=hu.mono i j hij (by rw [epc];omega)
   have m2:=hu.le j (by rw [epc];omega)
   have:gt u (32+j)=gt u 1:=by omega
   simpa using this) j (by omega)
  have v1:(gt s (32+j)=gt s 1)↔(A (gt s 0)).d.toNat≤j+levelTo s (A (gt s 0)).d.toNat:=by rw [show levelTo s (A (gt s 0)).d.toNat=(List.range (A (gt s 0)).d.toNat).countP fun j=>gt s (32+j)==gt s 1 from rfl,← u1];simp
  have v2:(gt u (32+j)=gt u 1)↔(A (gt s 0)).d.toNat≤j+levelTo u (A (gt s 0)).d.toNat:=by rw [show levelTo u (A (gt s 0)).d.toNat=(List.range (A (gt s 0)).d.toNat).countP fun j=>gt u (32+j)==gt u 1 from rfl,← u2];simp
  rw [← epos,v2,epos,v1]
  omega
 ·unfold mu mOf
  rw [epc,e1,e2]
  have:cnt (A (gt s 0)).d.toNat u=cnt (A (gt s 0)).d.toNat s:=by omega
  rw [this]
end Mt
