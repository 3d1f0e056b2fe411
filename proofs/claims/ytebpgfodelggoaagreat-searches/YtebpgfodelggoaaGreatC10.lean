import Derived.Test.YtebpgfodelggoaaGreatC09
import Derived.Test.YtebpgfodelggoaaGreatC08
import Derived.Deep.QuietTactic
import Derived.BigQuiet
set_option linter.unusedVariables false
set_option linter.unusedSimpArgs false
set_option maxRecDepth 100000
set_option maxHeartbeats 1000000
namespace Go.Proofs.YtebpgfodelggoaaGreat
open Go.RowKit
theorem zE3 (policy mask:Int) :
  (decide (0≤policy)=false∧Mt.kF policy mask=false) ∨
  (decide (0≤policy)=true∧decide (policy≤4)=false∧Mt.kF policy mask=false) ∨
  (decide (0≤policy)=true∧decide (policy≤4)=true∧decide (0≤mask)=false∧Mt.kF policy mask=false) ∨
  (decide (0≤policy)=true∧decide (policy≤4)=true∧decide (0≤mask)=true∧decide (mask≤4294967295)=false∧Mt.kF policy mask=false) ∨
  (decide (0≤policy)=true∧decide (policy≤4)=true∧decide (0≤mask)=true∧decide (mask≤4294967295)=true∧Mt.kF policy mask=true):=by
 unfold Mt.kF
 simp only [decide_eq_true_eq,decide_eq_false_iff_not]
 omega
theorem zGL (policy mask:Int) (w:World) :
  Calls Tryz.prog 44 #[.int .i64 policy,.int .i64 mask] w fun e w'=>e=.returned (.bool (Mt.kF policy mask))∧w=w':=by
 rcases zE3 policy mask with ⟨a1,e⟩ | ⟨a1,a2,e⟩ | ⟨a1,a2,a3,e⟩ | ⟨a1,a2,a3,a4,e⟩ | ⟨a1,a2,a3,a4,e⟩
 all_goals
  rw [e];clear e
  go_enter Tryz.func44,Tryz.ntmps44
  go_wp2_with fail
  go_ret
  exact ⟨rfl,rfl⟩
def zBS (w:World) (base:Nat) (v:Value) (b:List Int):Prop:=w.ownsRow base 3 1 v b.length (b.map (Value.int .i64))
theorem Tryz.info3:(Tryz.prog.info? 3).map (fun i=>(i.zero,i.size,i.bytes))=some (some (.int .i64 0),1,8):=by kernel_rfl
def zRq:Prop:=∀ (p:ByteArray) (z:World),p.size≤maxLen→Calls Tryz.prog 35 #[.string p] z fun e w'=>∃ v,e=.returned (.tuple #[v,.int .i64 (Mt.kQ p).2])∧zB w' z.heap.size v (Mt.kQ p).1∧Below z.heap.size z w'
def zP7:Prop:=∀ (p:ByteArray) (z:World),p.size≤maxLen→Calls Tryz.prog 30 #[.string p] z fun e w'=>e=.returned (.tuple #[.int .i64 (Mt.zMo p).1,.int .i64 (Mt.zMo p).2])∧Below z.heap.size z w'
def zP8:Prop:=∀ (p:ByteArray) (policy mask:Int) (z:World),p.size≤maxLen→Calls Tryz.prog 58 #[.string p,.int .i64 policy,.int .i64 mask] z fun e w'=>∃ v,e=.returned (.tuple #[v,.int .i64 (Mt.zMr p policy mask).2])∧zBS w' z.heap.size v (Mt.zMr p policy mask).1∧Below z.heap.size z w'
end Go.Proofs.YtebpgfodelggoaaGreat
namespace Mt
abbrev Sta:=List Int
def gt (s:Sta) (i:Nat):Int:=s.getD i 0
def zE4 (p:ByteArray) (c:Int) (k:Nat):Bool:=(p.data.toList.take k).any fun b=>(b.toNat:Int)==c
def hasB (p:ByteArray) (c:Int):Bool:=p.data.toList.any fun b=>(b.toNat:Int)==c
theorem zGg (p:ByteArray) (c:Int) (k:Nat) (h:k<p.size):zE4 p c (k+1)=(zE4 p c k||((p[k]'h).toNat:Int)==c):=by
 unfold zE4
 have h':k<p.data.toList.length:=by simpa using h
 rw [List.take_succ_eq_append_getElem h',List.any_append]
 simp only [List.any_cons,List.any_nil,Bool.or_false]
 rfl
theorem zHX (p:ByteArray) (c:Int):zE4 p c p.size=hasB p c:=by
 unfold zE4 hasB
 rw [List.take_of_length_le (by simp)]
theorem zJ4 (p:ByteArray) (c:Int) (k:Nat) (h:k<p.size) (hc:(((p[k]'h).toNat:Int)==c)=true):hasB p c=true:=by
 unfold hasB
 rw [List.any_eq_true]
 refine ⟨p[k]'h,?_,hc⟩
 have h':k<p.data.toList.length:=by simpa using h
 exact List.getElem_mem h'
def zU (s:Sta) (k:Nat):Nat:=(List.range k).countP fun j=>gt s (32+j)==gt s 1
theorem zEh (s:Sta) (k:Nat):zU s (k+1)=zU s k+if gt s (32+k)==gt s 1 then 1 else 0:=by
 unfold zU;rw [List.range_succ,List.countP_append];simp [List.countP_cons]
theorem zCG (s:Sta) (k:Nat):zU s k≤k:=by
 unfold zU;refine Nat.le_trans List.countP_le_length ?_;simp
def lev (s:Sta) (a:Nat):Nat:=zU s (min a 12)
theorem zPG (s:Sta) (a:Nat):lev s a≤12∧lev s a≤a:=by
 have:=zCG s (min a 12)
 unfold lev;omega
def keyOf (s:Sta) (pc pos T a:Nat):Nat:=(pc*(T+1)+pos)*12+lev s a
def yB (kn:List Bool) (room:Int) (i:Nat):List Bool:=if kn.getD i false=true then kn else if 0<room then kn.set i true else kn
def kV (kn:List Bool) (room:Int) (i:Nat):Int:=if kn.getD i false=true then room else if 0<room then room-1 else room
end Mt
namespace Go.Proofs.YtebpgfodelggoaaGreat
open Go.RowKit
theorem zP9 (p:ByteArray) (c:Int) (w:World) (hp:p.size≤1000) (hc0:0≤c) (hc1:c≤255) :
  Calls Tryz.prog 105 #[.string p,.int .u8 c] w fun e w'=>e=.returned (.bool (Mt.hasB p c))∧w=w':=by
 go_enter Tryz.func105,Tryz.ntmps105
 go_wp2_with fail
 go_loop [5] (fun i=>∃ k:Nat,k≤p.size∧i=.int .i64 k∧Mt.zE4 p c k=false) (fun i=>p.size-(intOf i).toNat)
 case atStart=>exact ⟨0,Nat.zero_le _,rfl,rfl⟩
 case round =>
  obtain ⟨k,hk,rfl,hr⟩:=hrel
  have HR:Hid (Mt.zE4 p c k=false):=hr
  clear hr
  by_cases hlt:k<p.size
  ·cases hq:(((p[k]'hlt).toNat:Int)==c)
   ·have HN:Hid (Mt.zE4 p c (k+1)=false):=by show _=_;rw [Mt.zGg p c k hlt,HR.out,hq];rfl
    go_wp2_with fail
    go_round
    case rel=>exact ⟨k+1,by omega,by go_num,HN.out⟩
    case measure=>simp [intOf];omega
   ·have HE:Hid (Mt.hasB p c=true):=Mt.zJ4 p c k hlt hq
    go_wp2_with fail
    go_ret
    exact ⟨kP (by rw [HE.out]),rfl⟩
  ·have HE:Hid (Mt.hasB p c=false):=by
    have:=HR.out
    rwa [show k=p.size by omega,Mt.zHX] at this
   go_wp2_with fail
   go_ret
   exact ⟨kP (by rw [HE.out]),rfl⟩
def stV (s:List Int):Value:=.agg (s.map (Value.int .i64)).toArray
structure Keep (wb gk:Nat) (w w':World):Prop where
 os:w'.os=w.os
 tape:w'.tape=w.tape
 output:w'.output=w.output
 size:w.heap.size≤w'.heap.size
 block:∀ k,k<w.heap.size→k≠wb→k≠gk→w'.heap[k]?=w.heap[k]?
theorem Keep.refl (wb gk:Nat) (w:World):Keep wb gk w w:=⟨rfl,rfl,rfl,Nat.le_refl _,fun _ _ _ _=>rfl⟩
theorem Keep.trans {wb gk:Nat} {a b c:World} (h:Keep wb gk a b) (k:Keep wb gk b c):Keep wb gk a c :=
 ⟨k.os.trans h.os,k.tape.trans h.tape,k.output.trans h.output,Nat.le_trans h.size k.size,fun i hi h1 h2=>(k.block i (Nat.lt_of_lt_of_le hi h.size) h1 h2).trans (h.block i hi h1 h2)⟩
theorem Keep.below {wb gk:Nat} {a b:World} (h:Below a.heap.size a b):Keep wb gk a b:=⟨h.os,h.tape,h.output,h.size,fun i hi _ _=>h.block i hi⟩
theorem Keep.set {wb gk:Nat} {a w:World} (h:Keep wb gk a w) {p:Addr} (hp:p.block=wb∨p.block=gk∨a.heap.size≤p.block) (u:Value):Keep wb gk a (w.setCell p u) :=
 ⟨h.os,h.tape,h.output,by have:=h.size;simpa [World.setCell] using this,fun i hi h1 h2=>by
  rw [Below.heap_setCell _ _ _ _ (by omega)];exact h.block i hi h1 h2⟩
structure zM (w:World) (wb gc gi ga gk:Nat) (cc ci ca ck:Nat) (c:List Mt.Ins) (text:ByteArray) (inn:List Bool) (ar:List Int) (budget:Int) (kn:List Bool) (room used:Int) (over:Bool):Prop where
 cell:w.heap[wb]?=some (.cells #[.slice (some ⟨gc,0,none⟩) c.length cc,.string text,.slice (some ⟨gi,0,none⟩) c.length ci,.slice (some ⟨ga,0,none⟩) c.length ca,.slice (some ⟨gk,0,none⟩) kn.length ck,.int .i64 room,.int .i64 budget,.int .i64 used,.bool over] 55 (0,0))
 code:zB w 0 (.slice (some ⟨gc,0,none⟩) c.length cc) c
 ins:jH w 0 (.slice (some ⟨gi,0,none⟩) inn.length ci) inn
 around:zBS w 0 (.slice (some ⟨ga,0,none⟩) ar.length ca) ar
 known:jH w 0 (.slice (some ⟨gk,0,none⟩) kn.length ck) kn
 li:inn.length=c.length
 la:ar.length=c.length
 apart:gc≠wb∧gi≠wb∧ga≠wb∧gk≠wb∧gc≠gk∧gi≠gk∧ga≠gk
theorem zE5 {w:World} {g cap:Nat} {c:List Bool} (h:jH w 0 (.slice (some ⟨g,0,none⟩) c.length cap) c):c.length≤cap∧g<w.heap.size∧(∀ j,j<c.length→w.cell? ⟨g,j,none⟩=some (.bool (c.getD j false)))∧(∀ j,w.frozen? ⟨g,j,none⟩=false):=by
 rcases h.2 with ⟨hv,_⟩ | ⟨g',cap',cur,hv,hb,hg,h1,h2,h3,h4⟩
 ·simp at hv
 ·simp only [Value.slice.injEq,Option.some.injEq,Addr.mk.injEq,and_true,true_and] at hv
  obtain ⟨rfl,rfl⟩:=hv
  refine ⟨h1,(Array.getElem?_eq_some_iff.1 hg).1,fun j hj=>?_,fun j=>World.ownsRow.frozenAt h j⟩
  have hc:=World.ownsRow.cellAt h j (by omega)
  rw [hc,List.getElem?_map,List.getD_eq_getElem?_getD,List.getElem?_eq_getElem hj];rfl
theorem zOk {w:World} {g cap:Nat} {c:List Int} (h:zBS w 0 (.slice (some ⟨g,0,none⟩) c.length cap) c):c.length≤cap∧g<w.heap.size∧(∀ j,j<c.length→w.cell? ⟨g,j,none⟩=some (.int .i64 (c.getD j 0))):=by
 rcases h.2 with ⟨hv,_⟩ | ⟨g',cap',cur,hv,hb,hg,h1,h2,h3,h4⟩
 ·simp at hv
 ·simp only [Value.slice.injEq,Option.some.injEq,Addr.mk.injEq,and_true,true_and] at hv
  obtain ⟨rfl,rfl⟩:=hv
  refine ⟨h1,(Array.getElem?_eq_some_iff.1 hg).1,fun j hj=>?_⟩
  have hc:=World.ownsRow.cellAt h j (by omega)
  rw [hc,List.getElem?_map,List.getD_eq_getElem?_getD,List.getElem?_eq_getElem hj];rfl
theorem zOl {w:World} {wb gc gi ga gk cc ci ca ck:Nat} {c:List Mt.Ins} {text:ByteArray} {inn:List Bool} {ar:List Int} {budget:Int} {kn:List Bool} {room used:Int} {over:Bool}
  (h:zM w wb gc gi ga gk cc ci ca ck c text inn ar budget kn room used over) (s:List Int) (pc:Nat) (h0:s[0]?=some (pc:Int)) (hpc:pc<c.length) (hl:c.length≤300) (hin:inn.getD pc false=false) :
  Calls Tryz.prog 75 #[.pointer (some ⟨wb,0,none⟩),stV s] w fun e w'=>e=.returned (.bool false)∧Keep wb gk w w'∧Below w.heap.size w w':=by
 have hcb:=zA h.cell
 have hwb:wb<w.heap.size:=(Array.getElem?_eq_some_iff.1 h.cell).1
 have c2:w.cell? ⟨wb,2,none⟩=some (.slice (some ⟨gi,0,none⟩) c.length ci):=hcb.1 2
 have bi:=zE5 h.ins
 have cgi:w.cell? ⟨gi,pc,none⟩=some (.bool false):=by rw [bi.2.2.1 pc (by rw [h.li];omega),hin]
 have hgi:=bi.2.1
 have hci:c.length≤ci:=by have:=bi.1;rw [h.li] at this;exact this
 clear hcb bi h
 unfold stV
 go_enter Tryz.func75,Tryz.ntmps75
 go_wp2_with fail
 go_quiet (fail)
 go_wp2_with fail
 go_ret
 have hB:=below_drewN ((Below.refl w.heap.size w).alloc (Nat.le_refl _) (.cells (s.map (Value.int .i64)).toArray 93))
 exact ⟨rfl,Keep.below (hB _),hB _⟩
end Go.Proofs.YtebpgfodelggoaaGreat
