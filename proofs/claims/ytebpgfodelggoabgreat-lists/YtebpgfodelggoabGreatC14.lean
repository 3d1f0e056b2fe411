import Derived.Test.YtebpgfodelggoabGreatC12
import Derived.Test.YtebpgfodelggoabGreatC13
import Derived.Deep.QuietTactic
import Derived.BigQuiet
set_option linter.unusedVariables false
set_option linter.unusedSimpArgs false
set_option maxRecDepth 100000
set_option maxHeartbeats 2000000
namespace Go.Proofs.YtebpgfodelggoabGreat
open Go.RowKit
theorem zQw (p:ByteArray) (c:Int) (w:World) (hp:p.size≤1000) (hc0:0≤c) (hc1:c≤255) :
  Calls Tryz.prog 142 #[.string p,.int .u8 c] w fun e w'=>e=.returned (.bool (Mt.hasB p c))∧w=w':=by
 go_enter Tryz.func142,Tryz.ntmps142
 go_wp2_with fail
 go_loop [5] (fun i=>∃ k:Nat,k≤p.size∧i=.int .i64 k∧Mt.zFf p c k=false) (fun i=>p.size-(intOf i).toNat)
 case atStart=>exact ⟨0,Nat.zero_le _,rfl,rfl⟩
 case round =>
  obtain ⟨k,hk,rfl,hr⟩:=hrel
  have HR:Hid (Mt.zFf p c k=false):=hr
  clear hr
  by_cases hlt:k<p.size
  ·cases hq:(((p[k]'hlt).toNat:Int)==c)
   ·have HN:Hid (Mt.zFf p c (k+1)=false):=by show _=_;rw [Mt.zGr p c k hlt,HR.out,hq];rfl
    go_wp2_with fail
    go_round
    case rel=>exact ⟨k+1,by omega,by go_num,HN.out⟩
    case measure=>simp [intOf];omega
   ·have HE:Hid (Mt.hasB p c=true):=Mt.zKm p c k hlt hq
    go_wp2_with fail
    go_ret
    exact ⟨kM (by rw [HE.out]),rfl⟩
  ·have HE:Hid (Mt.hasB p c=false):=by
    have:=HR.out
    rwa [show k=p.size by omega,Mt.zIe] at this
   go_wp2_with fail
   go_ret
   exact ⟨kM (by rw [HE.out]),rfl⟩
def stV (s:List Int):Value:=.agg (s.map (Value.int .i64)).toArray
structure Keep (wb gk:Nat) (w w':World):Prop where
 os:w'.os=w.os
 tape:w'.tape=w.tape
 output:w'.output=w.output
 size:w.heap.size≤w'.heap.size
 block:∀ k,k<w.heap.size→k≠wb→k≠gk→w'.heap[k]?=w.heap[k]?
theorem Keep.refl (wb gk:Nat) (w:World):Keep wb gk w w:=⟨rfl,rfl,rfl,Nat.le_refl _,fun _ _ _ _=>rfl⟩
theorem Keep.trans {wb gk:Nat} {a b c:World} (h:Keep wb gk a b) (k:Keep wb gk b c):Keep wb gk a c :=
 ⟨k.os.trans h.os,k.tape.trans h.tape,k.output.trans h.output,Nat.le_trans h.size k.size,fun i hi h1 h2=>(k.block i (Nat.lt_of_lt_of_le hi h.size) h1 h2).trans (h.block i hi h1 h2)⟩
theorem Keep.below {wb gk:Nat} {a b:World} (h:Below a.heap.size a b):Keep wb gk a b:=⟨h.os,h.tape,h.output,h.size,fun i hi _ _=>h.block i hi⟩
theorem Keep.set {wb gk:Nat} {a w:World} (h:Keep wb gk a w) {p:Addr} (hp:p.block=wb∨p.block=gk∨a.heap.size≤p.block) (u:Value):Keep wb gk a (w.setCell p u) :=
 ⟨h.os,h.tape,h.output,by have:=h.size;simpa [World.setCell] using this,fun i hi h1 h2=>by
  rw [Below.heap_setCell _ _ _ _ (by omega)];exact h.block i hi h1 h2⟩
structure zM (w:World) (wb gc gi ga gk:Nat) (cc ci ca ck:Nat) (c:List Mt.Ins) (text:ByteArray) (inn:List Bool) (ar:List Int) (budget:Int) (kn:List Bool) (room used:Int) (over:Bool):Prop where
 cell:w.heap[wb]?=some (.cells #[.slice (some ⟨gc,0,none⟩) c.length cc,.string text,.slice (some ⟨gi,0,none⟩) c.length ci,.slice (some ⟨ga,0,none⟩) c.length ca,.slice (some ⟨gk,0,none⟩) kn.length ck,.int .i64 room,.int .i64 budget,.int .i64 used,.bool over] 93 (0,0))
 code:zB w 0 (.slice (some ⟨gc,0,none⟩) c.length cc) c
 ins:jH w 0 (.slice (some ⟨gi,0,none⟩) inn.length ci) inn
 around:zBY w 0 (.slice (some ⟨ga,0,none⟩) ar.length ca) ar
 known:jH w 0 (.slice (some ⟨gk,0,none⟩) kn.length ck) kn
 li:inn.length=c.length
 la:ar.length=c.length
 apart:gc≠wb∧gi≠wb∧ga≠wb∧gk≠wb∧gc≠gk∧gi≠gk∧ga≠gk
theorem zFg {w:World} {g cap:Nat} {c:List Bool} (h:jH w 0 (.slice (some ⟨g,0,none⟩) c.length cap) c):c.length≤cap∧g<w.heap.size∧(∀ j,j<c.length→w.cell? ⟨g,j,none⟩=some (.bool (c.getD j false)))∧(∀ j,w.frozen? ⟨g,j,none⟩=false):=by
 rcases h.2 with ⟨hv,_⟩ | ⟨g',cap',cur,hv,hb,hg,h1,h2,h3,h4⟩
 ·simp at hv
 ·simp only [Value.slice.injEq,Option.some.injEq,Addr.mk.injEq,and_true,true_and] at hv
  obtain ⟨rfl,rfl⟩:=hv
  refine ⟨h1,(Array.getElem?_eq_some_iff.1 hg).1,fun j hj=>?_,fun j=>World.ownsRow.frozenAt h j⟩
  have hc:=World.ownsRow.cellAt h j (by omega)
  rw [hc,List.getElem?_map,List.getD_eq_getElem?_getD,List.getElem?_eq_getElem hj];rfl
theorem zOI {w:World} {g cap:Nat} {c:List Int} (h:zBY w 0 (.slice (some ⟨g,0,none⟩) c.length cap) c):c.length≤cap∧g<w.heap.size∧(∀ j,j<c.length→w.cell? ⟨g,j,none⟩=some (.int .i64 (c.getD j 0))):=by
 rcases h.2 with ⟨hv,_⟩ | ⟨g',cap',cur,hv,hb,hg,h1,h2,h3,h4⟩
 ·simp at hv
 ·simp only [Value.slice.injEq,Option.some.injEq,Addr.mk.injEq,and_true,true_and] at hv
  obtain ⟨rfl,rfl⟩:=hv
  refine ⟨h1,(Array.getElem?_eq_some_iff.1 hg).1,fun j hj=>?_⟩
  have hc:=World.ownsRow.cellAt h j (by omega)
  rw [hc,List.getElem?_map,List.getD_eq_getElem?_getD,List.getElem?_eq_getElem hj];rfl
theorem zOJ {w:World} {wb gc gi ga gk cc ci ca ck:Nat} {c:List Mt.Ins} {text:ByteArray} {inn:List Bool} {ar:List Int} {budget:Int} {kn:List Bool} {room used:Int} {over:Bool}
  (h:zM w wb gc gi ga gk cc ci ca ck c text inn ar budget kn room used over) (s:List Int) (pc:Nat) (h0:s[0]?=some (pc:Int)) (hpc:pc<c.length) (hl:c.length≤300) (hin:inn.getD pc false=false) :
  Calls Tryz.prog 116 #[.pointer (some ⟨wb,0,none⟩),stV s] w fun e w'=>e=.returned (.bool false)∧Keep wb gk w w'∧Below w.heap.size w w':=by
 have hcb:=zA h.cell
 have hwb:wb<w.heap.size:=(Array.getElem?_eq_some_iff.1 h.cell).1
 have c2:w.cell? ⟨wb,2,none⟩=some (.slice (some ⟨gi,0,none⟩) c.length ci):=hcb.1 2
 have bi:=zFg h.ins
 have cgi:w.cell? ⟨gi,pc,none⟩=some (.bool false):=by rw [bi.2.2.1 pc (by rw [h.li];omega),hin]
 have hgi:=bi.2.1
 have hci:c.length≤ci:=by have:=bi.1;rw [h.li] at this;exact this
 clear hcb bi h
 unfold stV
 go_enter Tryz.func116,Tryz.ntmps116
 go_wp2_with fail
 go_quiet (fail)
 go_wp2_with fail
 go_ret
 have hB:=below_drewN ((Below.refl w.heap.size w).alloc (Nat.le_refl _) (.cells (s.map (Value.int .i64)).toArray 139))
 exact ⟨rfl,Keep.below (hB _),hB _⟩
theorem zP6 (pc T pos n L:Nat) (h1:pc<L) (h2:pos≤T) (h3:n≤12) (h4:pc+1=L→n≤11):(pc*(T+1)+pos)*12+n<L*(T+1)*12:=by
 by_cases h:pc+1=L
 ·have:=h4 h
  subst h
  rw [Nat.add_mul pc 1]
  omega
 ·have h5:(pc+2)*(T+1)≤L*(T+1):=Nat.mul_le_mul_right _ (by omega)
  rw [Nat.add_mul] at h5
  omega
theorem zRT (pc T:Nat) (h1:pc≤300) (h2:T≤60):0≤(pc:Int)*((T:Int)+1)∧(pc:Int)*((T:Int)+1)≤18300:=by
 refine ⟨Int.mul_nonneg (by omega) (by omega),?_⟩
 have:=Int.mul_le_mul (show (pc:Int)≤300 by omega) (show (T:Int)+1≤61 by omega) (by omega) (by omega)
 omega
section
variable {w:World} {wb gc gi ga gk cc ci ca ck:Nat} {c:List Mt.Ins} {text:ByteArray} {inn:List Bool} {ar:List Int} {budget:Int} {kn:List Bool} {room used:Int} {over:Bool}
theorem jR {w w':World} {e:TypeId} {s g n cap:Nat} {xs:List Value} (h:w.ownsRow 0 e s (.slice (some ⟨g,0,none⟩) n cap) n xs) (hb:w'.heap[g]?=w.heap[g]?):w'.ownsRow 0 e s (.slice (some ⟨g,0,none⟩) n cap) n xs:=by
 refine ⟨h.1,?_⟩
 rcases h.2 with h' | ⟨g',cap',cur,hv,h0,hg,rest⟩
 ·exact .inl h'
 ·simp only [Value.slice.injEq,Option.some.injEq,Addr.mk.injEq,and_true,true_and] at hv
  obtain ⟨rfl,rfl⟩:=hv
  exact .inr ⟨g,cap,cur,rfl,h0,by rw [hb];exact hg,rest⟩
theorem zM.mem {w':World} (h:zM w wb gc gi ga gk cc ci ca ck c text inn ar budget kn room used over) (h1:w'.heap[wb]?=w.heap[wb]?) (h2:w'.heap[gc]?=w.heap[gc]?) (h3:w'.heap[gi]?=w.heap[gi]?) (h4:w'.heap[ga]?=w.heap[ga]?) (h5:w'.heap[gk]?=w.heap[gk]?) :
  zM w' wb gc gi ga gk cc ci ca ck c text inn ar budget kn room used over :=
 ⟨by rw [h1];exact h.cell,jR h.code h2,jR h.ins h3,jR h.around h4,jR h.known h5,h.li,h.la,h.apart⟩
theorem zM.lt (h:zM w wb gc gi ga gk cc ci ca ck c text inn ar budget kn room used over):wb<w.heap.size∧gc<w.heap.size∧gi<w.heap.size∧ga<w.heap.size∧gk<w.heap.size:=by
 have key:∀ {e:TypeId} {s g n cap:Nat} {xs:List Value},w.ownsRow 0 e s (.slice (some ⟨g,0,none⟩) n cap) n xs→g<w.heap.size:=fun hh=>(World.ownsRow.lt hh _ rfl).2
 exact ⟨(Array.getElem?_eq_some_iff.1 h.cell).1,key h.code,key h.ins,key h.around,key h.known⟩
theorem zM.below {w':World} (h:zM w wb gc gi ga gk cc ci ca ck c text inn ar budget kn room used over) (hb:Below w.heap.size w w'):zM w' wb gc gi ga gk cc ci ca ck c text inn ar budget kn room used over:=by
 obtain ⟨l1,l2,l3,l4,l5⟩:=h.lt
 exact h.mem (hb.block _ l1) (hb.block _ l2) (hb.block _ l3) (hb.block _ l4) (hb.block _ l5)
theorem zM.zKn (h:zM w wb gc gi ga gk cc ci ca ck c text inn ar budget kn room used over) (r:Int):zM (w.setCell ⟨wb,5,none⟩ (.int .i64 r)) wb gc gi ga gk cc ci ca ck c text inn ar budget kn r used over:=by
 obtain ⟨x1,x2,x3,x4,x5,x6,x7⟩:=h.apart
 have hc:=Go.heap_setCell_same w wb 5 _ _ (.int .i64 r) h.cell
 have o:∀ g,g≠wb→(w.setCell ⟨wb,5,none⟩ (.int .i64 r)).heap[g]?=w.heap[g]?:=fun g hg=>Below.heap_setCell _ _ _ _ hg
 exact ⟨hc,jR h.code (o _ x1),jR h.ins (o _ x2),jR h.around (o _ x3),jR h.known (o _ x4),h.li,h.la,h.apart⟩
theorem zM.zOK (h:zM w wb gc gi ga gk cc ci ca ck c text inn ar budget kn room used over) (r:Int):zM (w.setCell ⟨wb,7,none⟩ (.int .i64 r)) wb gc gi ga gk cc ci ca ck c text inn ar budget kn room r over:=by
 obtain ⟨x1,x2,x3,x4,x5,x6,x7⟩:=h.apart
 have hc:=Go.heap_setCell_same w wb 7 _ _ (.int .i64 r) h.cell
 have o:∀ g,g≠wb→(w.setCell ⟨wb,7,none⟩ (.int .i64 r)).heap[g]?=w.heap[g]?:=fun g hg=>Below.heap_setCell _ _ _ _ hg
 exact ⟨hc,jR h.code (o _ x1),jR h.ins (o _ x2),jR h.around (o _ x3),jR h.known (o _ x4),h.li,h.la,h.apart⟩
theorem zM.zOL (h:zM w wb gc gi ga gk cc ci ca ck c text inn ar budget kn room used over) (r:Bool):zM (w.setCell ⟨wb,8,none⟩ (.bool r)) wb gc gi ga gk cc ci ca ck c text inn ar budget kn room used r:=by
 obtain ⟨x1,x2,x3,x4,x5,x6,x7⟩:=h.apart
 have hc:=Go.heap_setCell_same w wb 8 _ _ (.bool r) h.cell
 have o:∀ g,g≠wb→(w.setCell ⟨wb,8,none⟩ (.bool r)).heap[g]?=w.heap[g]?:=fun g hg=>Below.heap_setCell _ _ _ _ hg
 exact ⟨hc,jR h.code (o _ x1),jR h.ins (o _ x2),jR h.around (o _ x3),jR h.known (o _ x4),h.li,h.la,h.apart⟩
theorem zM.know (h:zM w wb gc gi ga gk cc ci ca ck c text inn ar budget kn room used over) (i:Nat):zM (w.setCell ⟨gk,i,none⟩ (.bool true)) wb gc gi ga gk cc ci ca ck c text inn ar budget (kn.set i true) room used over:=by
 obtain ⟨x1,x2,x3,x4,x5,x6,x7⟩:=h.apart
 have hk:=(World.ownsRow.stored h.known i (.bool true)).1
 have o:∀ g,g≠gk→(w.setCell ⟨gk,i,none⟩ (.bool true)).heap[g]?=w.heap[g]?:=fun g hg=>Below.heap_setCell _ _ _ _ hg
 refine ⟨?_,jR h.code (o _ x5),jR h.ins (o _ x6),jR h.around (o _ x7),?_,h.li,h.la,h.apart⟩
 ·rw [o wb (Ne.symm x4),List.length_set];exact h.cell
 ·unfold jH
  rw [List.length_set,List.map_set];exact hk
end
theorem zQx {w:World} {wb gc gi ga gk cc ci ca ck:Nat} {c:List Mt.Ins} {text:ByteArray} {inn:List Bool} {ar:List Int} {budget:Int} {kn:List Bool} {room used:Int} {over:Bool}
  (h:zM w wb gc gi ga gk cc ci ca ck c text inn ar budget kn room used over) (s:List Int) (pc pos a:Nat) (h0:s[0]?=some (pc:Int)) (h1:s[1]?=some (pos:Int)) (hs:s.length=44) (hpc:pc<c.length) (hpos:pos≤text.size) (hl:c.length≤300) (ht:text.size≤60) (hin:inn.getD pc false=true)
  (har:ar.getD pc 0=(a:Int)) (ha:a≤300) (hlast:pc+1=c.length→a≤11) (hkn:kn.length=c.length*(text.size+1)*12) (hr0:0≤room) (hr1:room≤5000) :
  Calls Tryz.prog 116 #[.pointer (some ⟨wb,0,none⟩),stV s] w fun e w'=>e=.returned (.bool (kn.getD (Mt.keyOf s pc pos text.size a) false))∧Keep wb gk w w'∧zM w' wb gc gi ga gk cc ci ca ck c text inn ar budget (Mt.yA kn room (Mt.keyOf s pc pos text.size a)) (Mt.kV kn room (Mt.keyOf s pc pos text.size a)) used over:=by
 have HW:Hid (zM w wb gc gi ga gk cc ci ca ck c text inn ar budget kn room used over):=h
 have hcb:=zA h.cell
 have hwb:wb<w.heap.size:=(Array.getElem?_eq_some_iff.1 h.cell).1
 have c1:w.cell? ⟨wb,1,none⟩=some (.string text):=hcb.1 1
 have c2:w.cell? ⟨wb,2,none⟩=some (.slice (some ⟨gi,0,none⟩) c.length ci):=hcb.1 2
 have c3:w.cell? ⟨wb,3,none⟩=some (.slice (some ⟨ga,0,none⟩) c.length ca):=hcb.1 3
 have c4:w.cell? ⟨wb,4,none⟩=some (.slice (some ⟨gk,0,none⟩) kn.length ck):=hcb.1 4
 have c5:w.cell? ⟨wb,5,none⟩=some (.int .i64 room):=hcb.1 5
 have z5:w.frozen? ⟨wb,5,none⟩=false:=hcb.2 5
 have bi:=zFg h.ins
 have ba:=zOI h.around
 have bk:=zFg h.known
 have cgi:w.cell? ⟨gi,pc,none⟩=some (.bool true):=by rw [bi.2.2.1 pc (by rw [h.li];omega),hin]
 have cga:w.cell? ⟨ga,pc,none⟩=some (.int .i64 (a:Int)):=by rw [ba.2.2 pc (by rw [h.la];omega),har]
 have hgi:=bi.2.1
 have hga:=ba.2.1
 have hgk:=bk.2.1
 have hci:c.length≤ci:=by have:=bi.1;rw [h.li] at this;exact this
 have hca:c.length≤ca:=by have:=ba.1;rw [h.la] at this;exact this
 have hck:=bk.1
 have CK:Hid (∀ j,j<kn.length→w.cell? ⟨gk,j,none⟩=some (.bool (kn.getD j false))):=bk.2.2.1
 have ZK:Hid (∀ j,w.frozen? ⟨gk,j,none⟩=false):=bk.2.2.2
 have HM:Hid (∀ k,k<12→s[32+k]?=some (Mt.gt s (32+k))):=fun k hk=>by
  unfold Mt.gt;rw [List.getD_eq_getElem?_getD,List.getElem?_eq_getElem (by omega)];rfl
 have H1:Hid (Mt.gt s 1=(pos:Int)):=by show _=_;unfold Mt.gt;rw [List.getD_eq_getElem?_getD,h1];rfl
 have hm:=zRT pc text.size (by omega) ht
 have hm0:=hm.1
 have hm1:=hm.2
 have hx:=h.apart
 have x1:=hx.2.2.2.1
 have HKN:Hid (kn.length=c.length*(text.size+1)*12):=hkn
 clear hcb bi ba bk h har hin hm hx hs hkn
 unfold stV
 go_enter Tryz.func116,Tryz.ntmps116
 go_wp2_with fail
 go_quiet (fail)
 go_wp2_with fail
 go_loopw [5,6] (fun n i wr=>∃ k d:Nat,k≤12∧k≤a∧i=.int .i64 k∧n=.int .i64 (Mt.zV s k)∧wr=(w.alloc (.cells (s.map (Value.int .i64)).toArray 139)).drewN d) (fun _ i _=>12-(intOf i).toNat)
 case atStart=>exact ⟨0,_,by omega,by omega,rfl,rfl,rfl⟩
 case round =>
  obtain ⟨k,d,hk1,hk2,rfl,rfl,rfl⟩:=hrel
  have hle:=Mt.zCL s k
  by_cases hka:k<a
  ·by_cases zTT:k<12
   ·have hsk:=HM.out k zTT
    have HN:Hid (Mt.zV s (k+1)=Mt.zV s k+if Mt.gt s (32+k)==Mt.gt s 1 then 1 else 0):=Mt.zEp s k
    have b1:decide ((k:Int)<(a:Int))=true:=by simpa using hka
    have b2:decide ((k:Int)<12)=true:=by simp;omega
    go_wp2_with fail
    go_quiet (fail)
    go_wp2_with fail
    cases hq:(Mt.gt s (32+k)==(pos:Int))
    ·have HE:Hid (Mt.zV s (k+1)=Mt.zV s k):=by show _=_;rw [HN.out,H1.out,hq];rfl
     go_quiet (fail)
     go_wp2_with fail
     go_roundw
     case rel=>exact ⟨k+1,_,by omega,by omega,by go_num,by rw [HE.out],rfl⟩
     case measure=>simp [intOf];omega
    ·have HE:Hid (Mt.zV s (k+1)=Mt.zV s k+1):=by show _=_;rw [HN.out,H1.out,hq];rfl
     go_quiet (fail)
     go_wp2_with fail
     go_roundw
     case rel=>exact ⟨k+1,_,by omega,by omega,by go_num,by rw [HE.out];go_num,rfl⟩
     case measure=>simp [intOf];omega
   ·have b1:decide ((k:Int)<(a:Int))=true:=by simpa using hka
    have b2:decide ((k:Int)<12)=false:=by simp;omega
    have HL:Hid (Mt.zV s k=Mt.lev s a):=by show _=_;unfold Mt.lev;rw [show min a 12=k by omega]
    have hll:=Mt.zP5 s a
    have hidx:(pc*(text.size+1)+pos)*12+Mt.zV s k<kn.length:=by
     rw [HKN.out]
     exact zP6 pc text.size pos _ c.length hpc hpos (by omega) (fun e=>by have:=hlast e;omega)
    have ck0:w.cell? ⟨gk,(pc*(text.size+1)+pos)*12+Mt.zV s k,none⟩=some (.bool (kn.getD ((pc*(text.size+1)+pos)*12+Mt.zV s k) false)):=CK.out _ hidx
    have zk0:w.frozen? ⟨gk,(pc*(text.size+1)+pos)*12+Mt.zV s k,none⟩=false:=ZK.out _
    have HKEY:Hid (Mt.keyOf s pc pos text.size a=(pc*(text.size+1)+pos)*12+Mt.zV s k):=by show _=_;unfold Mt.keyOf;rw [HL.out]
    have i0:(0:Int)≤((pc:Int)*((text.size:Int)+1)+(pos:Int))*12+(Mt.zV s k:Int):=by omega
    have i1:((pc:Int)*((text.size:Int)+1)+(pos:Int))*12+(Mt.zV s k:Int)<(kn.length:Int):=by
     have e:(((pc*(text.size+1)+pos)*12+Mt.zV s k:Nat):Int)=((pc:Int)*((text.size:Int)+1)+(pos:Int))*12+(Mt.zV s k:Int):=by simp
     omega
    clear hll HM
    generalize hbit:kn.getD ((pc*(text.size+1)+pos)*12+Mt.zV s k) false=bit at *
    have zGZ:Hid (kn.getD (Mt.keyOf s pc pos text.size a) false=bit):=by show _=_;rw [HKEY.out];exact hbit
    clear hbit
    cases bit
    ·by_cases hroom:0<room
     ·have D1:Hid (Mt.yA kn room (Mt.keyOf s pc pos text.size a)=kn.set ((pc*(text.size+1)+pos)*12+Mt.zV s k) true):=by show _=_;unfold Mt.yA;rw [zGZ.out,if_neg (by simp),if_pos hroom,HKEY.out]
      have D2:Hid (Mt.kV kn room (Mt.keyOf s pc pos text.size a)=room-1):=by show _=_;unfold Mt.kV;rw [zGZ.out,if_neg (by simp),if_pos hroom]
      go_wp2_with fail
      go_quiet (fail)
      go_wp2_with fail
      go_quiet (fail)
      go_wp2_with fail
      go_ret
      refine ⟨kM zGZ.out.symm,?_,?_⟩
      ·exact Keep.set (p:=⟨gk,_,none⟩) (Keep.set (p:=⟨wb,5,none⟩) (Keep.below (below_drewN ((Below.refl _ _).alloc (Nat.le_refl _) _) _)) (Or.inl rfl) _) (Or.inr (Or.inl rfl)) _
      ·rw [D1.out,D2.out]
       exact ((HW.out.below (below_drewN ((Below.refl _ _).alloc (Nat.le_refl _) _) _)).zKn (room-1)).know _
     ·have D1:Hid (Mt.yA kn room (Mt.keyOf s pc pos text.size a)=kn):=by show _=_;unfold Mt.yA;rw [zGZ.out,if_neg (by simp),if_neg hroom]
      have D2:Hid (Mt.kV kn room (Mt.keyOf s pc pos text.size a)=room):=by show _=_;unfold Mt.kV;rw [zGZ.out,if_neg (by simp),if_neg hroom]
      go_wp2_with fail
      go_quiet (fail)
      go_wp2_with fail
      go_quiet (fail)
      go_wp2_with fail
      go_ret
      refine ⟨kM zGZ.out.symm,Keep.below (below_drewN ((Below.refl _ _).alloc (Nat.le_refl _) _) _),?_⟩
      rw [D1.out,D2.out]
      exact HW.out.below (below_drewN ((Below.refl _ _).alloc (Nat.le_refl _) _) _)
    ·have D1:Hid (Mt.yA kn room (Mt.keyOf s pc pos text.size a)=kn):=by show _=_;unfold Mt.yA;rw [zGZ.out,if_pos rfl]
     have D2:Hid (Mt.kV kn room (Mt.keyOf s pc pos text.size a)=room):=by show _=_;unfold Mt.kV;rw [zGZ.out,if_pos rfl]
     go_wp2_with fail
     go_quiet (fail)
     go_wp2_with fail
     go_quiet (fail)
     go_wp2_with fail
     go_ret
     refine ⟨kM zGZ.out.symm,Keep.below (below_drewN ((Below.refl _ _).alloc (Nat.le_refl _) _) _),?_⟩
     rw [D1.out,D2.out]
     exact HW.out.below (below_drewN ((Below.refl _ _).alloc (Nat.le_refl _) _) _)
  ·have b1:decide ((k:Int)<(a:Int))=false:=by simpa using hka
   have HL:Hid (Mt.zV s k=Mt.lev s a):=by show _=_;unfold Mt.lev;rw [show min a 12=k by omega]
   have hll:=Mt.zP5 s a
   have hidx:(pc*(text.size+1)+pos)*12+Mt.zV s k<kn.length:=by
    rw [HKN.out]
    exact zP6 pc text.size pos _ c.length hpc hpos (by omega) (fun e=>by have:=hlast e;omega)
   have ck0:w.cell? ⟨gk,(pc*(text.size+1)+pos)*12+Mt.zV s k,none⟩=some (.bool (kn.getD ((pc*(text.size+1)+pos)*12+Mt.zV s k) false)):=CK.out _ hidx
   have zk0:w.frozen? ⟨gk,(pc*(text.size+1)+pos)*12+Mt.zV s k,none⟩=false:=ZK.out _
   have HKEY:Hid (Mt.keyOf s pc pos text.size a=(pc*(text.size+1)+pos)*12+Mt.zV s k):=by show _=_;unfold Mt.keyOf;rw [HL.out]
   have i0:(0:Int)≤((pc:Int)*((text.size:Int)+1)+(pos:Int))*12+(Mt.zV s k:Int):=by omega
   have i1:((pc:Int)*((text.size:Int)+1)+(pos:Int))*12+(Mt.zV s k:Int)<(kn.length:Int):=by
    have e:(((pc*(text.size+1)+pos)*12+Mt.zV s k:Nat):Int)=((pc:Int)*((text.size:Int)+1)+(pos:Int))*12+(Mt.zV s k:Int):=by simp
    omega
   clear hll HM
   generalize hbit:kn.getD ((pc*(text.size+1)+pos)*12+Mt.zV s k) false=bit at *
   have zGZ:Hid (kn.getD (Mt.keyOf s pc pos text.size a) false=bit):=by show _=_;rw [HKEY.out];exact hbit
   clear hbit
   cases bit
   ·by_cases hroom:0<room
    ·have D1:Hid (Mt.yA kn room (Mt.keyOf s pc pos text.size a)=kn.set ((pc*(text.size+1)+pos)*12+Mt.zV s k) true):=by show _=_;unfold Mt.yA;rw [zGZ.out,if_neg (by simp),if_pos hroom,HKEY.out]
     have D2:Hid (Mt.kV kn room (Mt.keyOf s pc pos text.size a)=room-1):=by show _=_;unfold Mt.kV;rw [zGZ.out,if_neg (by simp),if_pos hroom]
     go_wp2_with fail
     go_quiet (fail)
     go_wp2_with fail
     go_quiet (fail)
     go_wp2_with fail
     go_ret
     refine ⟨kM zGZ.out.symm,?_,?_⟩
     ·exact Keep.set (p:=⟨gk,_,none⟩) (Keep.set (p:=⟨wb,5,none⟩) (Keep.below (below_drewN ((Below.refl _ _).alloc (Nat.le_refl _) _) _)) (Or.inl rfl) _) (Or.inr (Or.inl rfl)) _
     ·rw [D1.out,D2.out]
      exact ((HW.out.below (below_drewN ((Below.refl _ _).alloc (Nat.le_refl _) _) _)).zKn (room-1)).know _
    ·have D1:Hid (Mt.yA kn room (Mt.keyOf s pc pos text.size a)=kn):=by show _=_;unfold Mt.yA;rw [zGZ.out,if_neg (by simp),if_neg hroom]
     have D2:Hid (Mt.kV kn room (Mt.keyOf s pc pos text.size a)=room):=by show _=_;unfold Mt.kV;rw [zGZ.out,if_neg (by simp),if_neg hroom]
     go_wp2_with fail
     go_quiet (fail)
     go_wp2_with fail
     go_quiet (fail)
     go_wp2_with fail
     go_ret
     refine ⟨kM zGZ.out.symm,Keep.below (below_drewN ((Below.refl _ _).alloc (Nat.le_refl _) _) _),?_⟩
     rw [D1.out,D2.out]
     exact HW.out.below (below_drewN ((Below.refl _ _).alloc (Nat.le_refl _) _) _)
   ·have D1:Hid (Mt.yA kn room (Mt.keyOf s pc pos text.size a)=kn):=by show _=_;unfold Mt.yA;rw [zGZ.out,if_pos rfl]
    have D2:Hid (Mt.kV kn room (Mt.keyOf s pc pos text.size a)=room):=by show _=_;unfold Mt.kV;rw [zGZ.out,if_pos rfl]
    go_wp2_with fail
    go_quiet (fail)
    go_wp2_with fail
    go_quiet (fail)
    go_wp2_with fail
    go_ret
    refine ⟨kM zGZ.out.symm,Keep.below (below_drewN ((Below.refl _ _).alloc (Nat.le_refl _) _) _),?_⟩
    rw [D1.out,D2.out]
    exact HW.out.below (below_drewN ((Below.refl _ _).alloc (Nat.le_refl _) _) _)
end Go.Proofs.YtebpgfodelggoabGreat
