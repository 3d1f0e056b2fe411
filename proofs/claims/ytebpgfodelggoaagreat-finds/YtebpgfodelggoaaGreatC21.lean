import Derived.Test.YtebpgfodelggoaaGreatC20
import Derived.Test.YtebpgfodelggoaaGreatC10
import Derived.Deep.DeepCutAuto
set_option linter.unusedVariables false
set_option linter.unusedSimpArgs false
set_option maxRecDepth 100000
set_option maxHeartbeats 4000000
namespace Go.Proofs.YtebpgfodelggoaaGreat
open Go.RowKit
def zTs (w0:World) (gc cc:Nat) (c:List Mt.Ins) (text:ByteArray) (policy mask room budget:Int) (R:List Mt.Fnd × Int × Int) (v u i:Value) (wr:World):Prop :=
 ∃ (F frm:Nat) (used:Int) (l:List Mt.Fnd),i=.int .i64 frm∧u=.int .i64 used∧frm≤text.size+1∧text.size+2≤frm+F∧l.length≤frm∧(0≤used∧used≤budget)∧zRC wr w0.heap.size v l∧Below w0.heap.size w0 wr
  ∧ R=Mt.zJo c text policy mask room budget F frm used l
theorem zRD (f:Mt.Fnd) (h:f.at'.length=20) (k:Nat) (hk:k<20):(fdA f)[1+k]?=some (.int .i64 (f.at'.getD k 0)):=by
 unfold fdA
 rw [List.getElem?_toArray,Nat.add_comm,List.getElem?_cons_succ,List.getElem?_append_left (by simp;omega),List.getElem?_map,List.getElem?_eq_getElem (by omega),List.getD_eq_getElem?_getD,List.getElem?_eq_getElem (by omega)];rfl
theorem zFk (f:Mt.Fnd) (h:f.at'.length=20) (w:World) :
  Calls Tryz.prog 15 #[fdV f,fdV f] w fun e w'=>e=.returned (.bool true)∧Below w.heap.size w w':=by
 unfold fdV
 have HG:Hid (∀ k,k<20→(fdA f)[1+k]?=some (.int .i64 (f.at'.getD k 0))):=fun k hk=>zRD f h k hk
 have hg0:=(zMH f h).1
 have HG0:Hid ((fdA f)[0]?=some (.bool f.ok)):=hg0
 clear hg0
 generalize fdA f=A at *
 go_enter Tryz.func15,Tryz.ntmps15
 go_wp2_with fail
 go_loopw [5] (fun i wr=>∃ k d:Nat,k≤20∧i=.int .i64 k∧wr=((w.alloc (.cells A 29)).alloc (.cells A 29)).drewN d) (fun i _=>20-(intOf i).toNat)
 case atStart=>exact ⟨0,0,Nat.zero_le _,rfl,rfl⟩
 case round =>
  obtain ⟨k,d,hk,rfl,rfl⟩:=hrel
  have q1:((w.alloc (.cells A 29)).alloc (.cells A 29)).heap[w.heap.size]?=some (.cells A 29 (0,0)):=zBv _ _ _
  have q2:((w.alloc (.cells A 29)).alloc (.cells A 29)).heap[w.heap.size+1]?=some (.cells A 29 (0,0)):=zAV _ _ _
  have hB:Below w.heap.size w ((w.alloc (.cells A 29)).alloc (.cells A 29)):=((Below.refl _ _).alloc (Nat.le_refl _) _).alloc (by simp) _
  have s1:((w.alloc (.cells A 29)).alloc (.cells A 29)).heap.size=w.heap.size+1+1:=by simp
  generalize ((w.alloc (.cells A 29)).alloc (.cells A 29))=z at *
  have l1:w.heap.size<z.heap.size:=by omega
  have l2:w.heap.size+1<z.heap.size:=by omega
  by_cases hlt:k<20
  ·have a0:z.cell? ⟨w.heap.size,1+k,none⟩=some (.int .i64 (f.at'.getD k 0)):=((zA q1).1 _).trans (HG.out k hlt)
   have b0:z.cell? ⟨w.heap.size+1,1+k,none⟩=some (.int .i64 (f.at'.getD k 0)):=((zA q2).1 _).trans (HG.out k hlt)
   generalize f.at'.getD k 0=I at *
   have i0:(0:Int)≤(k:Int):=by omega
   have i1:(k:Int)<20:=by omega
   clear q1 q2 s1
   go_wp2_with fail
   go_quiet (fail)
   go_wp2_with fail
   go_roundw
   case rel=>exact ⟨k+1,_,by omega,by go_num,rfl⟩
   case measure=>simp [intOf];omega
  ·have a0:z.cell? ⟨w.heap.size,0,none⟩=some (.bool f.ok):=((zA q1).1 _).trans HG0.out
   have b0:z.cell? ⟨w.heap.size+1,0,none⟩=some (.bool f.ok):=((zA q2).1 _).trans HG0.out
   clear q1 q2 s1
   go_wp2_with fail
   go_ret
   exact ⟨kP (by simp),below_drewN hB _⟩
theorem zFY (f:Mt.Fnd) (h:f.at'.length=20) (w:World) :
  Calls Tryz.prog 13 #[fdV f,fdV f] w fun e w'=>e=.returned (.bool true)∧Below w.heap.size w w':=by
 have KP:Hid (∀ z:World,Calls Tryz.prog 15 #[fdV f,fdV f] z fun e w'=>e=.returned (.bool true)∧Below z.heap.size z w'):=fun z=>zFk f h z
 have HL:Hid ((fdA f).size=22):=zV f h
 have HG0:Hid ((fdA f)[21]?=some (.int .i64 f.steps)):=(zMH f h).2.2.2
 unfold fdV at *
 generalize fdA f=A at *
 go_enter Tryz.func13,Tryz.ntmps13
 go_wp2_with (first | (refine xU (by rfl) (.tmp 2) (by rfl) w.heap.size (by rfl) (by exact zBv _ _ _) HL.out ?_) | (refine xU (by rfl) (.tmp 3) (by rfl) (w.heap.size+1) (by rfl) (by exact zAV _ _ _) HL.out ?_) | fail)
 refine (KP.out _).mono ?_
 rintro e w1 ⟨rfl,hb1⟩
 have hs1:=hb1.size
 have q1:w1.heap[w.heap.size]?=some (.cells A 29 (0,0)):=(hb1.block _ (by simp;omega)).trans (zBv _ _ _)
 have q2:w1.heap[w.heap.size+1]?=some (.cells A 29 (0,0)):=(hb1.block _ (by simp)).trans (zAV _ _ _)
 have a0:w1.cell? ⟨w.heap.size,21,none⟩=some (.int .i64 f.steps):=((zA q1).1 _).trans HG0.out
 have b0:w1.cell? ⟨w.heap.size+1,21,none⟩=some (.int .i64 f.steps):=((zA q2).1 _).trans HG0.out
 have l1:w.heap.size<w1.heap.size:=by simp at hs1;omega
 have l2:w.heap.size+1<w1.heap.size:=by simp at hs1;omega
 have hB:Below w.heap.size w w1:=(((Below.refl _ _).alloc (Nat.le_refl _) _).alloc (by simp) _).trans (hb1.mono (by simp;omega))
 clear q1 q2 hb1 hs1
 go_wp2_with fail
 go_ret
 exact ⟨kP (by simp),hB⟩
def zUb:Mt.Fnd:=Mt.yV
theorem zJp (o:Stp) (w:World) :
  Calls Tryz.prog 11 #[opV o] w fun e w'=>e=.returned (.agg #[.int .i64 o.policy,.int .i64 o.mask,.int .i64 o.room,.int .i64 o.budget])∧Below w.heap.size w w':=by
 unfold opV opA
 go_enter Tryz.func11,Tryz.ntmps11
 go_wp2_with fail
 go_returns
 refine ⟨rfl,?_⟩
 go_grown
theorem Tryz.sizeOp:(Tryz.prog.info? 26).map (·.size)=some 8:=by kernel_rfl
theorem zAi {P:Program} {md:Region.Mode} {ops:Array Oper} {Q:Exit→Act→World→Prop} {S:World→Prop} (i:Nat) (oi:Oper) {fuel:Nat} {listed:Array Bool} {a:Act} {w:World} (hi:ops[i]?=some oi) (hgd:oi.guard=none) (hr:Region.ready md ops listed=[i])
  (ty:TypeId) (x y:Operand) (ho:oi.op=.store ty x y) (b o:Nat) (cells:Array Value) (hx:a.eval x=.pointer (some ⟨b,o,none⟩)) (hy:a.eval y=.agg cells) (ht:w.there b o cells.size) (hz:(P.info? ty).map (·.size)=some cells.size) (h1:cells.all (·.oneCell')=true)
  (hdn:oi.dst=none) (h:S (w.setCells b o cells.toList)∧wpAnyH P md ops Q S fuel (listed.setIfInBounds i true) a (w.setCells b o cells.toList)):wpAnyH P md ops Q S (fuel+1) listed a w:=by
 refine ⟨fun h0=>(by rw [hr] at h0;cases h0),fun j hj=>?_⟩
 rw [hr] at hj
 simp only [List.mem_singleton] at hj
 subst hj
 have hw:Region.wanted oi (yielded ops a.tmps)=true:=by simp [Region.wanted,hgd]
 unfold wpOp
 simp only [hi,hw,if_true]
 exact .inl (wp_store_mid ty x y ho b o cells hx hy ht hz h1 (by rw [hdn];exact h))
def zFl:Prop:=∀ (p t:ByteArray) (frm policy mask room budget:Int) (z:World),p.size≤maxLen→t.size≤maxLen→Calls Tryz.prog 10 #[.string p,.string t,.int .i64 frm,.agg #[.int .i64 policy,.int .i64 mask,.int .i64 room,.int .i64 budget]] z fun e w'=>e=.returned (.tuple #[fdV (Mt.zBc p t frm policy mask room budget).1,.int .i64 (Mt.zBc p t frm policy mask room budget).2])∧Below z.heap.size z w'
theorem zMI (p t:ByteArray) (frm policy mask room budget:Int):(Mt.zBc p t frm policy mask room budget).1.at'.length=20:=by
 unfold Mt.zBc
 split
 ·rfl
 split
 ·rfl
 rename_i h1 h2
 split
 ·rfl
 ·have hm:Mt.zAu t.size frm policy mask room budget=0:=by omega
  have hc:(Mt.kQ p).2=0:=by omega
  unfold Mt.zAu at hm
  split at hm
  ·omega
  split at hm
  ·rename_i h3 h4
   obtain ⟨hE,hcl⟩:=zPL p t hc (by omega)
   exact zDX (Mt.zFj (Mt.kQ p).1 t policy mask) hE.ok hcl budget _ _ _ _ _ (by show _≤t.size+1;omega) (by omega)
  ·omega
end Go.Proofs.YtebpgfodelggoaaGreat
