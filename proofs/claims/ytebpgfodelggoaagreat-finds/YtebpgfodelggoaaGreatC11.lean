import Derived.Test.YtebpgfodelggoaaGreatC10
import Derived.Deep.MidRow
import Derived.Laws.ResultCell
set_option linter.unusedVariables false
set_option linter.unusedSimpArgs false
set_option maxRecDepth 100000
set_option maxHeartbeats 2000000
namespace Go.Proofs.YtebpgfodelggoaaGreat
open Go.RowKit
theorem zPH (pc T pos n L:Nat) (h1:pc<L) (h2:pos≤T) (h3:n≤12) (h4:pc+1=L→n≤11):(pc*(T+1)+pos)*12+n<L*(T+1)*12:=by
 by_cases h:pc+1=L
 ·have:=h4 h
  subst h
  rw [Nat.add_mul pc 1]
  omega
 ·have h5:(pc+2)*(T+1)≤L*(T+1):=Nat.mul_le_mul_right _ (by omega)
  rw [Nat.add_mul] at h5
  omega
theorem zRr (pc T:Nat) (h1:pc≤300) (h2:T≤60):0≤(pc:Int)*((T:Int)+1)∧(pc:Int)*((T:Int)+1)≤18300:=by
 refine ⟨Int.mul_nonneg (by omega) (by omega),?_⟩
 have:=Int.mul_le_mul (show (pc:Int)≤300 by omega) (show (T:Int)+1≤61 by omega) (by omega) (by omega)
 omega
section
variable {w:World} {wb gc gi ga gk cc ci ca ck:Nat} {c:List Mt.Ins} {text:ByteArray} {inn:List Bool} {ar:List Int} {budget:Int} {kn:List Bool} {room used:Int} {over:Bool}
theorem jP {w w':World} {e:TypeId} {s g n cap:Nat} {xs:List Value} (h:w.ownsRow 0 e s (.slice (some ⟨g,0,none⟩) n cap) n xs) (hb:w'.heap[g]?=w.heap[g]?):w'.ownsRow 0 e s (.slice (some ⟨g,0,none⟩) n cap) n xs:=by
 refine ⟨h.1,?_⟩
 rcases h.2 with h' | ⟨g',cap',cur,hv,h0,hg,rest⟩
 ·exact .inl h'
 ·simp only [Value.slice.injEq,Option.some.injEq,Addr.mk.injEq,and_true,true_and] at hv
  obtain ⟨rfl,rfl⟩:=hv
  exact .inr ⟨g,cap,cur,rfl,h0,by rw [hb];exact hg,rest⟩
theorem zM.mem {w':World} (h:zM w wb gc gi ga gk cc ci ca ck c text inn ar budget kn room used over) (h1:w'.heap[wb]?=w.heap[wb]?) (h2:w'.heap[gc]?=w.heap[gc]?) (h3:w'.heap[gi]?=w.heap[gi]?) (h4:w'.heap[ga]?=w.heap[ga]?) (h5:w'.heap[gk]?=w.heap[gk]?) :
  zM w' wb gc gi ga gk cc ci ca ck c text inn ar budget kn room used over :=
 ⟨by rw [h1];exact h.cell,jP h.code h2,jP h.ins h3,jP h.around h4,jP h.known h5,h.li,h.la,h.apart⟩
theorem zM.lt (h:zM w wb gc gi ga gk cc ci ca ck c text inn ar budget kn room used over):wb<w.heap.size∧gc<w.heap.size∧gi<w.heap.size∧ga<w.heap.size∧gk<w.heap.size:=by
 have key:∀ {e:TypeId} {s g n cap:Nat} {xs:List Value},w.ownsRow 0 e s (.slice (some ⟨g,0,none⟩) n cap) n xs→g<w.heap.size:=fun hh=>(World.ownsRow.lt hh _ rfl).2
 exact ⟨(Array.getElem?_eq_some_iff.1 h.cell).1,key h.code,key h.ins,key h.around,key h.known⟩
theorem zM.below {w':World} (h:zM w wb gc gi ga gk cc ci ca ck c text inn ar budget kn room used over) (hb:Below w.heap.size w w'):zM w' wb gc gi ga gk cc ci ca ck c text inn ar budget kn room used over:=by
 obtain ⟨l1,l2,l3,l4,l5⟩:=h.lt
 exact h.mem (hb.block _ l1) (hb.block _ l2) (hb.block _ l3) (hb.block _ l4) (hb.block _ l5)
theorem zM.zJ5 (h:zM w wb gc gi ga gk cc ci ca ck c text inn ar budget kn room used over) (r:Int):zM (w.setCell ⟨wb,5,none⟩ (.int .i64 r)) wb gc gi ga gk cc ci ca ck c text inn ar budget kn r used over:=by
 obtain ⟨x1,x2,x3,x4,x5,x6,x7⟩:=h.apart
 have hc:=Go.heap_setCell_same w wb 5 _ _ (.int .i64 r) h.cell
 have o:∀ g,g≠wb→(w.setCell ⟨wb,5,none⟩ (.int .i64 r)).heap[g]?=w.heap[g]?:=fun g hg=>Below.heap_setCell _ _ _ _ hg
 exact ⟨hc,jP h.code (o _ x1),jP h.ins (o _ x2),jP h.around (o _ x3),jP h.known (o _ x4),h.li,h.la,h.apart⟩
theorem zM.zOm (h:zM w wb gc gi ga gk cc ci ca ck c text inn ar budget kn room used over) (r:Int):zM (w.setCell ⟨wb,7,none⟩ (.int .i64 r)) wb gc gi ga gk cc ci ca ck c text inn ar budget kn room r over:=by
 obtain ⟨x1,x2,x3,x4,x5,x6,x7⟩:=h.apart
 have hc:=Go.heap_setCell_same w wb 7 _ _ (.int .i64 r) h.cell
 have o:∀ g,g≠wb→(w.setCell ⟨wb,7,none⟩ (.int .i64 r)).heap[g]?=w.heap[g]?:=fun g hg=>Below.heap_setCell _ _ _ _ hg
 exact ⟨hc,jP h.code (o _ x1),jP h.ins (o _ x2),jP h.around (o _ x3),jP h.known (o _ x4),h.li,h.la,h.apart⟩
theorem zM.zOn (h:zM w wb gc gi ga gk cc ci ca ck c text inn ar budget kn room used over) (r:Bool):zM (w.setCell ⟨wb,8,none⟩ (.bool r)) wb gc gi ga gk cc ci ca ck c text inn ar budget kn room used r:=by
 obtain ⟨x1,x2,x3,x4,x5,x6,x7⟩:=h.apart
 have hc:=Go.heap_setCell_same w wb 8 _ _ (.bool r) h.cell
 have o:∀ g,g≠wb→(w.setCell ⟨wb,8,none⟩ (.bool r)).heap[g]?=w.heap[g]?:=fun g hg=>Below.heap_setCell _ _ _ _ hg
 exact ⟨hc,jP h.code (o _ x1),jP h.ins (o _ x2),jP h.around (o _ x3),jP h.known (o _ x4),h.li,h.la,h.apart⟩
theorem zM.know (h:zM w wb gc gi ga gk cc ci ca ck c text inn ar budget kn room used over) (i:Nat):zM (w.setCell ⟨gk,i,none⟩ (.bool true)) wb gc gi ga gk cc ci ca ck c text inn ar budget (kn.set i true) room used over:=by
 obtain ⟨x1,x2,x3,x4,x5,x6,x7⟩:=h.apart
 have hk:=(World.ownsRow.stored h.known i (.bool true)).1
 have o:∀ g,g≠gk→(w.setCell ⟨gk,i,none⟩ (.bool true)).heap[g]?=w.heap[g]?:=fun g hg=>Below.heap_setCell _ _ _ _ hg
 refine ⟨?_,jP h.code (o _ x5),jP h.ins (o _ x6),jP h.around (o _ x7),?_,h.li,h.la,h.apart⟩
 ·rw [o wb (Ne.symm x4),List.length_set];exact h.cell
 ·unfold jH
  rw [List.length_set,List.map_set];exact hk
end
theorem zQa {w:World} {wb gc gi ga gk cc ci ca ck:Nat} {c:List Mt.Ins} {text:ByteArray} {inn:List Bool} {ar:List Int} {budget:Int} {kn:List Bool} {room used:Int} {over:Bool}
  (h:zM w wb gc gi ga gk cc ci ca ck c text inn ar budget kn room used over) (s:List Int) (pc pos a:Nat) (h0:s[0]?=some (pc:Int)) (h1:s[1]?=some (pos:Int)) (hs:s.length=44) (hpc:pc<c.length) (hpos:pos≤text.size) (hl:c.length≤300) (ht:text.size≤60) (hin:inn.getD pc false=true)
  (har:ar.getD pc 0=(a:Int)) (ha:a≤300) (hlast:pc+1=c.length→a≤11) (hkn:kn.length=c.length*(text.size+1)*12) (hr0:0≤room) (hr1:room≤5000) :
  Calls Tryz.prog 75 #[.pointer (some ⟨wb,0,none⟩),stV s] w fun e w'=>e=.returned (.bool (kn.getD (Mt.keyOf s pc pos text.size a) false))∧Keep wb gk w w'∧zM w' wb gc gi ga gk cc ci ca ck c text inn ar budget (Mt.yB kn room (Mt.keyOf s pc pos text.size a)) (Mt.kV kn room (Mt.keyOf s pc pos text.size a)) used over:=by
 have HW:Hid (zM w wb gc gi ga gk cc ci ca ck c text inn ar budget kn room used over):=h
 have hcb:=zA h.cell
 have hwb:wb<w.heap.size:=(Array.getElem?_eq_some_iff.1 h.cell).1
 have c1:w.cell? ⟨wb,1,none⟩=some (.string text):=hcb.1 1
 have c2:w.cell? ⟨wb,2,none⟩=some (.slice (some ⟨gi,0,none⟩) c.length ci):=hcb.1 2
 have c3:w.cell? ⟨wb,3,none⟩=some (.slice (some ⟨ga,0,none⟩) c.length ca):=hcb.1 3
 have c4:w.cell? ⟨wb,4,none⟩=some (.slice (some ⟨gk,0,none⟩) kn.length ck):=hcb.1 4
 have c5:w.cell? ⟨wb,5,none⟩=some (.int .i64 room):=hcb.1 5
 have z5:w.frozen? ⟨wb,5,none⟩=false:=hcb.2 5
 have bi:=zE5 h.ins
 have ba:=zOk h.around
 have bk:=zE5 h.known
 have cgi:w.cell? ⟨gi,pc,none⟩=some (.bool true):=by rw [bi.2.2.1 pc (by rw [h.li];omega),hin]
 have cga:w.cell? ⟨ga,pc,none⟩=some (.int .i64 (a:Int)):=by rw [ba.2.2 pc (by rw [h.la];omega),har]
 have hgi:=bi.2.1
 have hga:=ba.2.1
 have hgk:=bk.2.1
 have hci:c.length≤ci:=by have:=bi.1;rw [h.li] at this;exact this
 have hca:c.length≤ca:=by have:=ba.1;rw [h.la] at this;exact this
 have hck:=bk.1
 have CK:Hid (∀ j,j<kn.length→w.cell? ⟨gk,j,none⟩=some (.bool (kn.getD j false))):=bk.2.2.1
 have ZK:Hid (∀ j,w.frozen? ⟨gk,j,none⟩=false):=bk.2.2.2
 have HM:Hid (∀ k,k<12→s[32+k]?=some (Mt.gt s (32+k))):=fun k hk=>by
  unfold Mt.gt;rw [List.getD_eq_getElem?_getD,List.getElem?_eq_getElem (by omega)];rfl
 have H1:Hid (Mt.gt s 1=(pos:Int)):=by show _=_;unfold Mt.gt;rw [List.getD_eq_getElem?_getD,h1];rfl
 have hm:=zRr pc text.size (by omega) ht
 have hm0:=hm.1
 have hm1:=hm.2
 have hx:=h.apart
 have x1:=hx.2.2.2.1
 have HKN:Hid (kn.length=c.length*(text.size+1)*12):=hkn
 clear hcb bi ba bk h har hin hm hx hs hkn
 unfold stV
 go_enter Tryz.func75,Tryz.ntmps75
 go_wp2_with fail
 go_quiet (fail)
 go_wp2_with fail
 go_loopw [5,6] (fun n i wr=>∃ k d:Nat,k≤12∧k≤a∧i=.int .i64 k∧n=.int .i64 (Mt.zU s k)∧wr=(w.alloc (.cells (s.map (Value.int .i64)).toArray 93)).drewN d) (fun _ i _=>12-(intOf i).toNat)
 case atStart=>exact ⟨0,_,by omega,by omega,rfl,rfl,rfl⟩
 case round =>
  obtain ⟨k,d,hk1,hk2,rfl,rfl,rfl⟩:=hrel
  have hle:=Mt.zCG s k
  by_cases hka:k<a
  ·by_cases zTj:k<12
   ·have hsk:=HM.out k zTj
    have HN:Hid (Mt.zU s (k+1)=Mt.zU s k+if Mt.gt s (32+k)==Mt.gt s 1 then 1 else 0):=Mt.zEh s k
    have b1:decide ((k:Int)<(a:Int))=true:=by simpa using hka
    have b2:decide ((k:Int)<12)=true:=by simp;omega
    go_wp2_with fail
    go_quiet (fail)
    go_wp2_with fail
    cases hq:(Mt.gt s (32+k)==(pos:Int))
    ·have HE:Hid (Mt.zU s (k+1)=Mt.zU s k):=by show _=_;rw [HN.out,H1.out,hq];rfl
     go_quiet (fail)
     go_wp2_with fail
     go_roundw
     case rel=>exact ⟨k+1,_,by omega,by omega,by go_num,by rw [HE.out],rfl⟩
     case measure=>simp [intOf];omega
    ·have HE:Hid (Mt.zU s (k+1)=Mt.zU s k+1):=by show _=_;rw [HN.out,H1.out,hq];rfl
     go_quiet (fail)
     go_wp2_with fail
     go_roundw
     case rel=>exact ⟨k+1,_,by omega,by omega,by go_num,by rw [HE.out];go_num,rfl⟩
     case measure=>simp [intOf];omega
   ·have b1:decide ((k:Int)<(a:Int))=true:=by simpa using hka
    have b2:decide ((k:Int)<12)=false:=by simp;omega
    have HL:Hid (Mt.zU s k=Mt.lev s a):=by show _=_;unfold Mt.lev;rw [show min a 12=k by omega]
    have hll:=Mt.zPG s a
    have hidx:(pc*(text.size+1)+pos)*12+Mt.zU s k<kn.length:=by
     rw [HKN.out]
     exact zPH pc text.size pos _ c.length hpc hpos (by omega) (fun e=>by have:=hlast e;omega)
    have ck0:w.cell? ⟨gk,(pc*(text.size+1)+pos)*12+Mt.zU s k,none⟩=some (.bool (kn.getD ((pc*(text.size+1)+pos)*12+Mt.zU s k) false)):=CK.out _ hidx
    have zk0:w.frozen? ⟨gk,(pc*(text.size+1)+pos)*12+Mt.zU s k,none⟩=false:=ZK.out _
    have HKEY:Hid (Mt.keyOf s pc pos text.size a=(pc*(text.size+1)+pos)*12+Mt.zU s k):=by show _=_;unfold Mt.keyOf;rw [HL.out]
    have i0:(0:Int)≤((pc:Int)*((text.size:Int)+1)+(pos:Int))*12+(Mt.zU s k:Int):=by omega
    have i1:((pc:Int)*((text.size:Int)+1)+(pos:Int))*12+(Mt.zU s k:Int)<(kn.length:Int):=by
     have e:(((pc*(text.size+1)+pos)*12+Mt.zU s k:Nat):Int)=((pc:Int)*((text.size:Int)+1)+(pos:Int))*12+(Mt.zU s k:Int):=by simp
     omega
    clear hll HM
    generalize hbit:kn.getD ((pc*(text.size+1)+pos)*12+Mt.zU s k) false=bit at *
    have zGM:Hid (kn.getD (Mt.keyOf s pc pos text.size a) false=bit):=by show _=_;rw [HKEY.out];exact hbit
    clear hbit
    cases bit
    ·by_cases hroom:0<room
     ·have D1:Hid (Mt.yB kn room (Mt.keyOf s pc pos text.size a)=kn.set ((pc*(text.size+1)+pos)*12+Mt.zU s k) true):=by show _=_;unfold Mt.yB;rw [zGM.out,if_neg (by simp),if_pos hroom,HKEY.out]
      have D2:Hid (Mt.kV kn room (Mt.keyOf s pc pos text.size a)=room-1):=by show _=_;unfold Mt.kV;rw [zGM.out,if_neg (by simp),if_pos hroom]
      go_wp2_with fail
      go_quiet (fail)
      go_wp2_with fail
      go_quiet (fail)
      go_wp2_with fail
      go_ret
      refine ⟨kP zGM.out.symm,?_,?_⟩
      ·exact Keep.set (p:=⟨gk,_,none⟩) (Keep.set (p:=⟨wb,5,none⟩) (Keep.below (below_drewN ((Below.refl _ _).alloc (Nat.le_refl _) _) _)) (Or.inl rfl) _) (Or.inr (Or.inl rfl)) _
      ·rw [D1.out,D2.out]
       exact ((HW.out.below (below_drewN ((Below.refl _ _).alloc (Nat.le_refl _) _) _)).zJ5 (room-1)).know _
     ·have D1:Hid (Mt.yB kn room (Mt.keyOf s pc pos text.size a)=kn):=by show _=_;unfold Mt.yB;rw [zGM.out,if_neg (by simp),if_neg hroom]
      have D2:Hid (Mt.kV kn room (Mt.keyOf s pc pos text.size a)=room):=by show _=_;unfold Mt.kV;rw [zGM.out,if_neg (by simp),if_neg hroom]
      go_wp2_with fail
      go_quiet (fail)
      go_wp2_with fail
      go_quiet (fail)
      go_wp2_with fail
      go_ret
      refine ⟨kP zGM.out.symm,Keep.below (below_drewN ((Below.refl _ _).alloc (Nat.le_refl _) _) _),?_⟩
      rw [D1.out,D2.out]
      exact HW.out.below (below_drewN ((Below.refl _ _).alloc (Nat.le_refl _) _) _)
    ·have D1:Hid (Mt.yB kn room (Mt.keyOf s pc pos text.size a)=kn):=by show _=_;unfold Mt.yB;rw [zGM.out,if_pos rfl]
     have D2:Hid (Mt.kV kn room (Mt.keyOf s pc pos text.size a)=room):=by show _=_;unfold Mt.kV;rw [zGM.out,if_pos rfl]
     go_wp2_with fail
     go_quiet (fail)
     go_wp2_with fail
     go_quiet (fail)
     go_wp2_with fail
     go_ret
     refine ⟨kP zGM.out.symm,Keep.below (below_drewN ((Below.refl _ _).alloc (Nat.le_refl _) _) _),?_⟩
     rw [D1.out,D2.out]
     exact HW.out.below (below_drewN ((Below.refl _ _).alloc (Nat.le_refl _) _) _)
  ·have b1:decide ((k:Int)<(a:Int))=false:=by simpa using hka
   have HL:Hid (Mt.zU s k=Mt.lev s a):=by show _=_;unfold Mt.lev;rw [show min a 12=k by omega]
   have hll:=Mt.zPG s a
   have hidx:(pc*(text.size+1)+pos)*12+Mt.zU s k<kn.length:=by
    rw [HKN.out]
    exact zPH pc text.size pos _ c.length hpc hpos (by omega) (fun e=>by have:=hlast e;omega)
   have ck0:w.cell? ⟨gk,(pc*(text.size+1)+pos)*12+Mt.zU s k,none⟩=some (.bool (kn.getD ((pc*(text.size+1)+pos)*12+Mt.zU s k) false)):=CK.out _ hidx
   have zk0:w.frozen? ⟨gk,(pc*(text.size+1)+pos)*12+Mt.zU s k,none⟩=false:=ZK.out _
   have HKEY:Hid (Mt.keyOf s pc pos text.size a=(pc*(text.size+1)+pos)*12+Mt.zU s k):=by show _=_;unfold Mt.keyOf;rw [HL.out]
   have i0:(0:Int)≤((pc:Int)*((text.size:Int)+1)+(pos:Int))*12+(Mt.zU s k:Int):=by omega
   have i1:((pc:Int)*((text.size:Int)+1)+(pos:Int))*12+(Mt.zU s k:Int)<(kn.length:Int):=by
    have e:(((pc*(text.size+1)+pos)*12+Mt.zU s k:Nat):Int)=((pc:Int)*((text.size:Int)+1)+(pos:Int))*12+(Mt.zU s k:Int):=by simp
    omega
   clear hll HM
   generalize hbit:kn.getD ((pc*(text.size+1)+pos)*12+Mt.zU s k) false=bit at *
   have zGM:Hid (kn.getD (Mt.keyOf s pc pos text.size a) false=bit):=by show _=_;rw [HKEY.out];exact hbit
   clear hbit
   cases bit
   ·by_cases hroom:0<room
    ·have D1:Hid (Mt.yB kn room (Mt.keyOf s pc pos text.size a)=kn.set ((pc*(text.size+1)+pos)*12+Mt.zU s k) true):=by show _=_;unfold Mt.yB;rw [zGM.out,if_neg (by simp),if_pos hroom,HKEY.out]
     have D2:Hid (Mt.kV kn room (Mt.keyOf s pc pos text.size a)=room-1):=by show _=_;unfold Mt.kV;rw [zGM.out,if_neg (by simp),if_pos hroom]
     go_wp2_with fail
     go_quiet (fail)
     go_wp2_with fail
     go_quiet (fail)
     go_wp2_with fail
     go_ret
     refine ⟨kP zGM.out.symm,?_,?_⟩
     ·exact Keep.set (p:=⟨gk,_,none⟩) (Keep.set (p:=⟨wb,5,none⟩) (Keep.below (below_drewN ((Below.refl _ _).alloc (Nat.le_refl _) _) _)) (Or.inl rfl) _) (Or.inr (Or.inl rfl)) _
     ·rw [D1.out,D2.out]
      exact ((HW.out.below (below_drewN ((Below.refl _ _).alloc (Nat.le_refl _) _) _)).zJ5 (room-1)).know _
    ·have D1:Hid (Mt.yB kn room (Mt.keyOf s pc pos text.size a)=kn):=by show _=_;unfold Mt.yB;rw [zGM.out,if_neg (by simp),if_neg hroom]
     have D2:Hid (Mt.kV kn room (Mt.keyOf s pc pos text.size a)=room):=by show _=_;unfold Mt.kV;rw [zGM.out,if_neg (by simp),if_neg hroom]
     go_wp2_with fail
     go_quiet (fail)
     go_wp2_with fail
     go_quiet (fail)
     go_wp2_with fail
     go_ret
     refine ⟨kP zGM.out.symm,Keep.below (below_drewN ((Below.refl _ _).alloc (Nat.le_refl _) _) _),?_⟩
     rw [D1.out,D2.out]
     exact HW.out.below (below_drewN ((Below.refl _ _).alloc (Nat.le_refl _) _) _)
   ·have D1:Hid (Mt.yB kn room (Mt.keyOf s pc pos text.size a)=kn):=by show _=_;unfold Mt.yB;rw [zGM.out,if_pos rfl]
    have D2:Hid (Mt.kV kn room (Mt.keyOf s pc pos text.size a)=room):=by show _=_;unfold Mt.kV;rw [zGM.out,if_pos rfl]
    go_wp2_with fail
    go_quiet (fail)
    go_wp2_with fail
    go_quiet (fail)
    go_wp2_with fail
    go_ret
    refine ⟨kP zGM.out.symm,Keep.below (below_drewN ((Below.refl _ _).alloc (Nat.le_refl _) _) _),?_⟩
    rw [D1.out,D2.out]
    exact HW.out.below (below_drewN ((Below.refl _ _).alloc (Nat.le_refl _) _) _)
theorem Tryz.size117:(Tryz.prog.info? 93).map (·.size)=some 44:=by kernel_rfl
theorem zCY (b:Nat) (t:TypeId):∀ (vs:List Value) (o:Nat) (w:World) (C:Array Value),w.heap[b]?=some (.cells C t (0,0))→∃ D:Array Value,(w.setCells b o vs).heap[b]?=some (.cells D t (0,0))∧D.size=C.size
 | [],o,w,C,h=>⟨C,h,rfl⟩
 | v::r,o,w,C,h=>by
  obtain ⟨D,h1,h2⟩:=zCY b t r (o+1) (w.setCell ⟨b,o,none⟩ v) _ (Go.heap_setCell_same w b o C t v h)
  exact ⟨D,h1,by rw [h2];simp⟩
theorem kZ (b:Nat):∀ (vs:List Value) (o:Nat) (w:World) (k:Nat),k≠b→(w.setCells b o vs).heap[k]?=w.heap[k]?
 | [],o,w,k,h=>rfl
 | v::r,o,w,k,h=>by
  show ((w.setCell ⟨b,o,none⟩ v).setCells b (o+1) r).heap[k]?=_
  rw [kZ b r (o+1) _ k h,Below.heap_setCell _ _ _ _ h]
theorem qI {w:World} {b:Nat} {t:TypeId} {B:Array Value} (h:w.heap[b]?=some (.cells B t (0,0))) (cs:Array Value) (hs:cs.size=B.size) :
  (w.setCells b 0 cs.toList).heap[b]?=some (.cells cs t (0,0)):=by
 obtain ⟨D,h1,h2⟩:=zCY b t cs.toList 0 w B h
 have hb:=zA h
 obtain ⟨w2,e,q1,_⟩:=zCh hb.1 hb.2 cs hs
 have hd:=zA h1
 have:D=cs:=by
  apply Array.ext (by omega)
  intro i hi1 hi2
  have a1:=hd.1 i
  have a2:=q1 i
  rw [e] at a2
  rw [a2,Array.getElem?_eq_getElem hi1,Array.getElem?_eq_getElem hi2] at a1
  simpa using a1.symm
 rw [h1,this]
theorem qY {w:World} {b:Nat} {t:TypeId} {A:Array Value} (h:w.heap[b]?=some (.cells A t (0,0))):w.rangeAt b 0 A.toList:=fun j v hv=>by
 rw [Nat.zero_add,(zA h).1 j];simpa using hv
theorem zG {ops:Array Oper} {rest:List Oper} {op:Oper} {a:Act} {w:World} {Q:Exit→Act→World→Prop} (hgd:op.guard=none) (x:Operand) (ho:op.op=.load 93 x)
  (b:Nat) (hx:a.eval x=.pointer (some ⟨b,0,none⟩)) {t:TypeId} {A:Array Value} (hA:w.heap[b]?=some (.cells A t (0,0))) (hs:A.size=44)
  (h:wpList Tryz.prog ops Q rest (a.put op.dst (.agg A)) w):wpList Tryz.prog ops Q (op::rest) a w :=
 wpList_load_mid hgd _ x ho b 0 hx A.toList _ (qY hA) Tryz.underlying93 rfl (by rw [Tryz.size117];simp [hs]) h
theorem zF {ops:Array Oper} {rest:List Oper} {op:Oper} {a:Act} {w:World} {Q:Exit→Act→World→Prop} (hgd:op.guard=none) (x y:Operand) (ho:op.op=.store 93 x y)
  (b:Nat) (cs:Array Value) (hx:a.eval x=.pointer (some ⟨b,0,none⟩)) (hy:a.eval y=.agg cs) {t:TypeId} {B:Array Value} (hB:w.heap[b]?=some (.cells B t (0,0))) (hs:B.size=44) (hc:cs.size=44) (h1:cs.all (·.oneCell')=true)
  (h:∀ w2:World,w2.heap[b]?=some (.cells cs t (0,0))→(∀ k,k≠b→w2.heap[k]?=w.heap[k]?)→w2.heap.size=w.heap.size→(∀ L,L≤b→Below L w w2)→wpList Tryz.prog ops Q rest (a.put op.dst undef) w2):wpList Tryz.prog ops Q (op::rest) a w:=by
 have hb:=zA hB
 refine wpList_store_mid hgd _ x y ho b 0 cs hx hy (jN hb.1 hb.2 _ (by omega)) (by rw [Tryz.size117,hc]) h1 ?_
 exact h _ (qI hB cs (by omega)) (fun k hk=>kZ b _ 0 w k hk) (below_setCells b _ 0 w 0 (Nat.zero_le _)).2 (fun L hL=>(below_setCells b _ 0 w L hL).1)
theorem vO {fn:Func} {p u:Tmp} (hr:fn.results=#[.cell p 93,.tmp u]) {tmps:Array Value} {w:World} {b:Nat} {t:TypeId} {A:Array Value} (hp:tmps.getD p undef=.pointer (some ⟨b,0,none⟩)) (hA:w.heap[b]?=some (.cells A t (0,0))) (hs:A.size=44) :
  (results fn tmps).run Tryz.prog w=.ok (.tuple #[.agg A,tmps.getD u undef]) w:=by
 rw [results_cell_tmp hr,hp]
 have:=run_loadVar_mid (P:=Tryz.prog) w b 0 93 A.toList _ (qY hA) Tryz.underlying93 rfl (by rw [Tryz.size117];simp [hs])
 simp [asAddr,Result.andThen,this]
theorem zA0 (w:World) (A B C:Obj):(((w.alloc A).alloc B).alloc C).heap[w.heap.size]?=some A:=by
 rw [zX _ _ _ (by simp;omega),zX _ _ _ (by simp),heap_alloc_new]
theorem zCc (w:World) (A B C:Obj):(((w.alloc A).alloc B).alloc C).heap[w.heap.size+1+1]?=some C:=by
 have:((w.alloc A).alloc B).heap.size=w.heap.size+1+1:=by simp
 rw [← this,heap_alloc_new]
def zCZ:Obj:=.cells #[Value.int IntKind.i64 0,Value.int IntKind.i64 0,Value.int IntKind.i64 0,Value.int IntKind.i64 0,Value.int IntKind.i64 0,Value.int IntKind.i64 0,Value.int IntKind.i64 0,Value.int IntKind.i64 0,Value.int IntKind.i64 0,Value.int IntKind.i64 0,Value.int IntKind.i64 0,Value.int IntKind.i64 0,Value.int IntKind.i64 0,Value.int IntKind.i64 0,Value.int IntKind.i64 0,Value.int IntKind.i64 0,Value.int IntKind.i64 0,Value.int IntKind.i64 0,Value.int IntKind.i64 0,Value.int IntKind.i64 0,Value.int IntKind.i64 0,Value.int IntKind.i64 0,Value.int IntKind.i64 0,Value.int IntKind.i64 0,Value.int IntKind.i64 0,Value.int IntKind.i64 0,Value.int IntKind.i64 0,Value.int IntKind.i64 0,Value.int IntKind.i64 0,Value.int IntKind.i64 0,Value.int IntKind.i64 0,Value.int IntKind.i64 0,Value.int IntKind.i64 0,Value.int IntKind.i64 0,Value.int IntKind.i64 0,Value.int IntKind.i64 0,Value.int IntKind.i64 0,Value.int IntKind.i64 0,Value.int IntKind.i64 0,Value.int IntKind.i64 0,Value.int IntKind.i64 0,Value.int IntKind.i64 0,Value.int IntKind.i64 0,Value.int IntKind.i64 0] 93
theorem vJ:Obj.cells #[Value.int IntKind.i64 0,Value.int IntKind.i64 0,Value.int IntKind.i64 0,Value.int IntKind.i64 0,Value.int IntKind.i64 0,Value.int IntKind.i64 0,Value.int IntKind.i64 0,Value.int IntKind.i64 0,Value.int IntKind.i64 0,Value.int IntKind.i64 0,Value.int IntKind.i64 0,Value.int IntKind.i64 0,Value.int IntKind.i64 0,Value.int IntKind.i64 0,Value.int IntKind.i64 0,Value.int IntKind.i64 0,Value.int IntKind.i64 0,Value.int IntKind.i64 0,Value.int IntKind.i64 0,Value.int IntKind.i64 0,Value.int IntKind.i64 0,Value.int IntKind.i64 0,Value.int IntKind.i64 0,Value.int IntKind.i64 0,Value.int IntKind.i64 0,Value.int IntKind.i64 0,Value.int IntKind.i64 0,Value.int IntKind.i64 0,Value.int IntKind.i64 0,Value.int IntKind.i64 0,Value.int IntKind.i64 0,Value.int IntKind.i64 0,Value.int IntKind.i64 0,Value.int IntKind.i64 0,Value.int IntKind.i64 0,Value.int IntKind.i64 0,Value.int IntKind.i64 0,Value.int IntKind.i64 0,Value.int IntKind.i64 0,Value.int IntKind.i64 0,Value.int IntKind.i64 0,Value.int IntKind.i64 0,Value.int IntKind.i64 0,Value.int IntKind.i64 0] 93=zCZ:=rfl
def zCH (x:Mt.Ins):Value:=.agg #[.int .i64 x.op,.int .i64 x.x,.int .i64 x.y,.string ⟨x.set.toArray⟩]
theorem zRs (s:List Int) (i:Nat) (v:Int):((s.map (Value.int .i64)).toArray).setIfInBounds i (.int .i64 v)=((s.set i v).map (Value.int .i64)).toArray:=by
 simp [List.map_set]
theorem jC (s:List Int):((s.map (Value.int .i64)).toArray).all (·.oneCell')=true:=by
 simp [Value.oneCell']
theorem zQb (s:List Int) (i:Nat) (v:Int):(((s.map (Value.int .i64)).set i (.int .i64 v)).toArray).all (·.oneCell')=true:=by
 rw [← List.map_set];exact jC _
theorem jD (s:List Int) (i:Nat) (v:Int):((s.map (Value.int .i64)).set i (.int .i64 v))=(s.set i v).map (Value.int .i64):=by rw [List.map_set]
theorem zOo {w:World} {wb gc gi ga gk cc ci ca ck:Nat} {c:List Mt.Ins} {text:ByteArray} {inn:List Bool} {ar:List Int} {budget:Int} {kn:List Bool} {room used:Int} {over:Bool}
  (h:zM w wb gc gi ga gk cc ci ca ck c text inn ar budget kn room used over) (s:List Int) (x:Mt.Ins) (pc pos:Nat) (h0:s[0]?=some (pc:Int)) (h1:s[1]?=some (pos:Int)) (hs:s.length=44)
  (o1:(x.op==1)=false) (o3:(x.op==3)=true) :
  Calls Tryz.prog 77 #[.pointer (some ⟨wb,0,none⟩),stV s,zCH x] w fun e w'=>e=.returned (.tuple #[stV (s.set 0 x.x),.bool true])∧Below w.heap.size w w':=by
 have HS:Hid (s.length=44):=hs
 clear hs h
 unfold stV zCH
 have hz:=vJ
 go_enter Tryz.func77,Tryz.ntmps77
 go_wp2_with (first | (refine zG (by rfl) (.tmp 4) (by rfl) w.heap.size (by rfl) (by exact zA0 _ _ _ _) (by simp [HS.out]) ?_) | (refine zF (by rfl) (.tmp 6) (.tmp 41) (by rfl) (w.heap.size+1+1) _ (by rfl) (by rfl) (by exact zCc _ _ _ _) (by rfl) (by simp [HS.out]) (zQb _ _ _) ?_;intro w2 r1 r2 r3 r4))
 have hB:Below w.heap.size w w2:=((((Below.refl _ _).alloc (Nat.le_refl _) _).alloc (by simp) _).alloc (by simp;omega) _).trans (r4 _ (by omega))
 clear r2 r3 r4
 refine bodyPost_ret (vO rfl (by rfl) r1 (by simp [HS.out])) rfl ⟨?_,hB⟩
 rw [jD]
 rfl
end Go.Proofs.YtebpgfodelggoaaGreat
