import Derived.Test.YtebpgfodelggoabGreatKC12
import Derived.Test.YtebpgfodelggoabGreatKC13
import Derived.Deep.QuietTactic
import Derived.BigQuiet
import Derived.Deep.MidRow
import Derived.Laws.ResultCell
set_option linter.unusedVariables false
set_option linter.unusedSimpArgs false
set_option maxRecDepth 100000
set_option maxHeartbeats 4000000
namespace Go.Proofs.YtebpgfodelggoabGreat
open Go.RowKit
theorem zO6(p:ByteArray)(c:Int)(w:World)(hp:p.size<=1000)(hc0:0<=c)(hc1:c<=255) :
  Calls Tryz.prog 142 #[.string p,.int .u8 c] w λe w'=>e=.returned (.bool (Mt.hasB p c))/\w=w':=by
 go_enter Tryz.func142,Tryz.ntmps142
 go_wp2_with fail
 go_loop [5] (λi=>∃k:Nat,k<=p.size/\i=.int .i64 k/\Mt.zDt p c k=false) (λi=>p.size-(intOf i).toNat)
 case atStart=>exact⟨0,Nat.zero_le _,rfl,rfl⟩
 case round =>
  obtain⟨k,hk,rfl,hr⟩:=hrel;have HR:Hid (Mt.zDt p c k=false):=hr;clear hr;by_cases zTI:k<p.size
  ·cases hq:(((p[k]'zTI).toNat:Int)==c)
   ·have HN:Hid (Mt.zDt p c (k+1)=false):=by show _=_;rw[Mt.zEH p c k zTI,HR.out,hq];rfl
    go_wp2_with fail
    go_round
    case rel=>exact⟨k+1,by omega,by go_num,HN.out⟩
    case measure=>simp[intOf];omega
   ·have HE:Hid (Mt.hasB p c=true):=Mt.zIP p c k zTI hq;go_wp2_with fail
    go_ret;exact⟨jC (by rw[HE.out]),rfl⟩
  ·have HE:Hid (Mt.hasB p c=false):=by
    have:=HR.out
    rwa [show k=p.size by omega,Mt.zGD]at this
   go_wp2_with fail
   go_ret;exact⟨jC (by rw[HE.out]),rfl⟩
def stV(s:List Int):Value:=.agg (s.map (Value.int .i64)).toArray
structure Keep (wb gk:Nat) (w w':World):Prop where
 os:w'.os=w.os
 tape:w'.tape=w.tape
 output:w'.output=w.output
 size:w.heap.size<=w'.heap.size
 block:∀k,k<w.heap.size->k≠wb->k≠gk->w'.heap[k]?=w.heap[k]?
theorem Keep.refl(wb gk:Nat)(w:World):Keep wb gk w w:=⟨rfl,rfl,rfl,lG _,λ_ _ _ _=>rfl⟩
theorem Keep.trans{wb gk:Nat}{a b c:World}(h:Keep wb gk a b)(k:Keep wb gk b c):Keep wb gk a c :=
 ⟨k.os.trans h.os,k.tape.trans h.tape,k.output.trans h.output,Nat.le_trans h.size k.size,λi hi h1 h2=>(k.block i (Nat.lt_of_lt_of_le hi h.size) h1 h2).trans (h.block i hi h1 h2)⟩
theorem Keep.below{wb gk:Nat}{a b:World}(h:Below a.heap.size a b):Keep wb gk a b:=⟨h.os,h.tape,h.output,h.size,λi hi _ _=>h.block i hi⟩
theorem Keep.set{wb gk:Nat}{a w:World}(h:Keep wb gk a w){p:Addr}(hp:p.block=wb\/p.block=gk\/a.heap.size<=p.block)(u:Value):Keep wb gk a (w.setCell p u) :=
 ⟨h.os,h.tape,h.output,by have:=h.size;simpa[World.setCell]using this,λi hi h1 h2=>by
  rw[Below.heap_setCell _ _ _ _ (by omega)];exact h.block i hi h1 h2⟩
structure zU (w:World) (wb gc gi ga gk:Nat) (cc ci ca ck:Nat) (c:List Mt.zTG) (zK:ByteArray) (zTM:List Bool) (ar:List Int) (zA:Int) (kn:List Bool) (zD qE:Int) (qI:Bool):Prop where
 cell:w.heap[wb]?=some (.cells #[.slice (some ⟨gc,0,none⟩) c.length cc,.string zK,.slice (some ⟨gi,0,none⟩) c.length ci,.slice (some ⟨ga,0,none⟩) c.length ca,.slice (some ⟨gk,0,none⟩) kn.length ck,.int .i64 zD,.int .i64 zA,.int .i64 qE,.bool qI] 93 (0,0))
 code:zF w 0 (.slice (some ⟨gc,0,none⟩) c.length cc) c
 ins:qA w 0 (.slice (some ⟨gi,0,none⟩) zTM.length ci) zTM
 around:yO w 0 (.slice (some ⟨ga,0,none⟩) ar.length ca) ar
 known:qA w 0 (.slice (some ⟨gk,0,none⟩) kn.length ck) kn
 li:zTM.length=c.length
 la:ar.length=c.length
 apart:gc≠wb/\gi≠wb/\ga≠wb/\gk≠wb/\gc≠gk/\gi≠gk/\ga≠gk
theorem zDu{w:World}{g cap:Nat}{c:List Bool}(h:qA w 0 (.slice (some ⟨g,0,none⟩) c.length cap) c):c.length<=cap/\g<w.heap.size/\(∀j,j<c.length->w.cell? ⟨g,j,none⟩=some (.bool (c.getD j false)))/\(∀j,w.frozen? ⟨g,j,none⟩=false):=by
 rcases h.2 with ⟨hv,_⟩ | ⟨g',cap',cur,hv,hb,hg,h1,h2,h3,h4⟩
 ·simp at hv
 ·simp only[Value.slice.injEq,Option.some.injEq,Addr.mk.injEq,and_true,true_and]at hv;obtain⟨rfl,rfl⟩:=hv;refine⟨h1,(lI.1 hg).1,λj hj=>?_,λj=>World.ownsRow.frozenAt h j⟩;have hc:=World.ownsRow.cellAt h j (by omega);rw[hc,List.getElem?_map,lH,lK hj];rfl
theorem zNm{w:World}{g cap:Nat}{c:List Int}(h:yO w 0 (.slice (some ⟨g,0,none⟩) c.length cap) c):c.length<=cap/\g<w.heap.size/\(∀j,j<c.length->w.cell? ⟨g,j,none⟩=some (.int .i64 (c.getD j 0))):=by
 rcases h.2 with ⟨hv,_⟩ | ⟨g',cap',cur,hv,hb,hg,h1,h2,h3,h4⟩
 ·simp at hv
 ·simp only[Value.slice.injEq,Option.some.injEq,Addr.mk.injEq,and_true,true_and]at hv;obtain⟨rfl,rfl⟩:=hv;refine⟨h1,(lI.1 hg).1,λj hj=>?_⟩;have hc:=World.ownsRow.cellAt h j (by omega);rw[hc,List.getElem?_map,lH,lK hj];rfl
theorem zNn{w:World}{wb gc gi ga gk cc ci ca ck:Nat}{c:List Mt.zTG}{zK:ByteArray}{zTM:List Bool}{ar:List Int}{zA:Int}{kn:List Bool}{zD qE:Int}{qI:Bool}
  (h:zU w wb gc gi ga gk cc ci ca ck c zK zTM ar zA kn zD qE qI) (s:List Int) (pc:Nat) (h0:s[0]?=some (pc:Int)) (hpc:pc<c.length) (hl:c.length<=300) (hin:zTM.getD pc false=false) :
  Calls Tryz.prog 116 #[.pointer (some ⟨wb,0,none⟩),stV s] w λe w'=>e=.returned (.bool false)/\Keep wb gk w w'/\Below w.heap.size w w':=by
 have hcb:=zC h.cell;have hwb:wb<w.heap.size:=(lI.1 h.cell).1;have c2:w.cell? ⟨wb,2,none⟩=some (.slice (some ⟨gi,0,none⟩) c.length ci):=hcb.1 2;have bi:=zDu h.ins;have cgi:w.cell? ⟨gi,pc,none⟩=some (.bool false):=by rw[bi.2.2.1 pc (by rw[h.li];omega),hin]
 have hgi:=bi.2.1;have hci:c.length<=ci:=by have:=bi.1;rw[h.li]at this;exact this
 clear hcb bi h;unfold stV;go_enter Tryz.func116,Tryz.ntmps116
 go_wp2_with fail
 go_quiet (fail)
 go_wp2_with fail
 go_ret;have hB:=below_drewN ((Below.refl w.heap.size w).alloc (lG _) (.cells (s.map (Value.int .i64)).toArray 139));exact⟨rfl,Keep.below (hB _),hB _⟩
theorem zOI(pc T pos n L:Nat)(h1:pc<L)(h2:pos<=T)(h3:n<=12)(h4:pc+1=L->n<=11):(pc*(T+1)+pos)*12+n<L*(T+1)*12:=by
 by_cases h:pc+1=L
 ·have:=h4 h;subst h;rw[Nat.add_mul pc 1];omega
 ·have h5:(pc+2)*(T+1)<=L*(T+1):=Nat.mul_le_mul_right _ (by omega);rw[Nat.add_mul]at h5;omega
theorem zQr(pc T:Nat)(h1:pc<=300)(h2:T<=60):0<=(pc:Int)*((T:Int)+1)/\(pc:Int)*((T:Int)+1)<=18300:=by
 refine⟨Int.mul_nonneg (by omega) (by omega),?_⟩;have:=Int.mul_le_mul (show(pc:Int)<=300 by omega) (show(T:Int)+1<=61 by omega) (by omega) (by omega);omega
section
variable {w:World} {wb gc gi ga gk cc ci ca ck:Nat} {c:List Mt.zTG} {zK:ByteArray} {zTM:List Bool} {ar:List Int} {zA:Int} {kn:List Bool} {zD qE:Int} {qI:Bool}
theorem qY{w w':World}{e:TypeId}{s g n cap:Nat}{xs:List Value}(h:w.ownsRow 0 e s (.slice (some ⟨g,0,none⟩) n cap) n xs)(hb:w'.heap[g]?=w.heap[g]?):w'.ownsRow 0 e s (.slice (some ⟨g,0,none⟩) n cap) n xs:=by
 refine⟨h.1,?_⟩;rcases h.2 with h' | ⟨g',cap',cur,hv,h0,hg,rest⟩
 ·exact .inl h'
 ·simp only[Value.slice.injEq,Option.some.injEq,Addr.mk.injEq,and_true,true_and]at hv;obtain⟨rfl,rfl⟩:=hv;exact .inr ⟨g,cap,cur,rfl,h0,by rw[hb];exact hg,rest⟩
theorem zU.mem{w':World}(h:zU w wb gc gi ga gk cc ci ca ck c zK zTM ar zA kn zD qE qI)(h1:w'.heap[wb]?=w.heap[wb]?)(h2:w'.heap[gc]?=w.heap[gc]?)(h3:w'.heap[gi]?=w.heap[gi]?)(h4:w'.heap[ga]?=w.heap[ga]?)(h5:w'.heap[gk]?=w.heap[gk]?) :
  zU w' wb gc gi ga gk cc ci ca ck c zK zTM ar zA kn zD qE qI :=
 ⟨by rw[h1];exact h.cell,qY h.code h2,qY h.ins h3,qY h.around h4,qY h.known h5,h.li,h.la,h.apart⟩
theorem zU.lt(h:zU w wb gc gi ga gk cc ci ca ck c zK zTM ar zA kn zD qE qI):wb<w.heap.size/\gc<w.heap.size/\gi<w.heap.size/\ga<w.heap.size/\gk<w.heap.size:=by
 have key:∀{e:TypeId} {s g n cap:Nat} {xs:List Value},w.ownsRow 0 e s (.slice (some ⟨g,0,none⟩) n cap) n xs->g<w.heap.size:=λhh=>(World.ownsRow.lt hh _ rfl).2
 exact⟨(lI.1 h.cell).1,key h.code,key h.ins,key h.around,key h.known⟩
theorem zU.below{w':World}(h:zU w wb gc gi ga gk cc ci ca ck c zK zTM ar zA kn zD qE qI)(hb:Below w.heap.size w w'):zU w' wb gc gi ga gk cc ci ca ck c zK zTM ar zA kn zD qE qI:=by
 obtain⟨l1,l2,l3,l4,l5⟩:=h.lt;exact h.mem (hb.block _ l1) (hb.block _ l2) (hb.block _ l3) (hb.block _ l4) (hb.block _ l5)
theorem zU.zIQ(h:zU w wb gc gi ga gk cc ci ca ck c zK zTM ar zA kn zD qE qI)(r:Int):zU (w.setCell ⟨wb,5,none⟩ (.int .i64 r)) wb gc gi ga gk cc ci ca ck c zK zTM ar zA kn r qE qI:=by
 obtain⟨x1,x2,x3,x4,x5,x6,x7⟩:=h.apart;have hc:=Go.heap_setCell_same w wb 5 _ _ (.int .i64 r) h.cell;have o:∀g,g≠wb->(w.setCell ⟨wb,5,none⟩ (.int .i64 r)).heap[g]?=w.heap[g]?:=λg hg=>Below.heap_setCell _ _ _ _ hg
 exact⟨hc,qY h.code (o _ x1),qY h.ins (o _ x2),qY h.around (o _ x3),qY h.known (o _ x4),h.li,h.la,h.apart⟩
theorem zU.zNo(h:zU w wb gc gi ga gk cc ci ca ck c zK zTM ar zA kn zD qE qI)(r:Int):zU (w.setCell ⟨wb,7,none⟩ (.int .i64 r)) wb gc gi ga gk cc ci ca ck c zK zTM ar zA kn zD r qI:=by
 obtain⟨x1,x2,x3,x4,x5,x6,x7⟩:=h.apart;have hc:=Go.heap_setCell_same w wb 7 _ _ (.int .i64 r) h.cell;have o:∀g,g≠wb->(w.setCell ⟨wb,7,none⟩ (.int .i64 r)).heap[g]?=w.heap[g]?:=λg hg=>Below.heap_setCell _ _ _ _ hg
 exact⟨hc,qY h.code (o _ x1),qY h.ins (o _ x2),qY h.around (o _ x3),qY h.known (o _ x4),h.li,h.la,h.apart⟩
theorem zU.zNp(h:zU w wb gc gi ga gk cc ci ca ck c zK zTM ar zA kn zD qE qI)(r:Bool):zU (w.setCell ⟨wb,8,none⟩ (.bool r)) wb gc gi ga gk cc ci ca ck c zK zTM ar zA kn zD qE r:=by
 obtain⟨x1,x2,x3,x4,x5,x6,x7⟩:=h.apart;have hc:=Go.heap_setCell_same w wb 8 _ _ (.bool r) h.cell;have o:∀g,g≠wb->(w.setCell ⟨wb,8,none⟩ (.bool r)).heap[g]?=w.heap[g]?:=λg hg=>Below.heap_setCell _ _ _ _ hg
 exact⟨hc,qY h.code (o _ x1),qY h.ins (o _ x2),qY h.around (o _ x3),qY h.known (o _ x4),h.li,h.la,h.apart⟩
theorem zU.know(h:zU w wb gc gi ga gk cc ci ca ck c zK zTM ar zA kn zD qE qI)(i:Nat):zU (w.setCell ⟨gk,i,none⟩ (.bool true)) wb gc gi ga gk cc ci ca ck c zK zTM ar zA (kn.set i true) zD qE qI:=by
 obtain⟨x1,x2,x3,x4,x5,x6,x7⟩:=h.apart;have hk:=(World.ownsRow.stored h.known i (.bool true)).1;have o:∀g,g≠gk->(w.setCell ⟨gk,i,none⟩ (.bool true)).heap[g]?=w.heap[g]?:=λg hg=>Below.heap_setCell _ _ _ _ hg
 refine⟨?_,qY h.code (o _ x5),qY h.ins (o _ x6),qY h.around (o _ x7),?_,h.li,h.la,h.apart⟩
 ·rw[o wb (Ne.symm x4),List.length_set];exact h.cell
 ·unfold qA;rw[List.length_set,List.map_set];exact hk
end
theorem zO7{w:World}{wb gc gi ga gk cc ci ca ck:Nat}{c:List Mt.zTG}{zK:ByteArray}{zTM:List Bool}{ar:List Int}{zA:Int}{kn:List Bool}{zD qE:Int}{qI:Bool}
  (h:zU w wb gc gi ga gk cc ci ca ck c zK zTM ar zA kn zD qE qI) (s:List Int) (pc pos a:Nat) (h0:s[0]?=some (pc:Int)) (h1:s[1]?=some (pos:Int)) (hs:s.length=44) (hpc:pc<c.length) (dI:pos<=zK.size) (hl:c.length<=300) (ht:zK.size<=60) (hin:zTM.getD pc false=true)
  (har:ar.getD pc 0=(a:Int)) (ha:a<=300) (hlast:pc+1=c.length->a<=11) (hkn:kn.length=c.length*(zK.size+1)*12) (hr0:0<=zD) (hr1:zD<=5000) :
  Calls Tryz.prog 116 #[.pointer (some ⟨wb,0,none⟩),stV s] w λe w'=>e=.returned (.bool (kn.getD (Mt.keyOf s pc pos zK.size a) false))/\Keep wb gk w w'/\zU w' wb gc gi ga gk cc ci ca ck c zK zTM ar zA (Mt.vR kn zD (Mt.keyOf s pc pos zK.size a)) (Mt.jT kn zD (Mt.keyOf s pc pos zK.size a)) qE qI:=by
 have HW:Hid (zU w wb gc gi ga gk cc ci ca ck c zK zTM ar zA kn zD qE qI):=h;have hcb:=zC h.cell;have hwb:wb<w.heap.size:=(lI.1 h.cell).1;have c1:w.cell? ⟨wb,1,none⟩=some (.string zK):=hcb.1 1;have c2:w.cell? ⟨wb,2,none⟩=some (.slice (some ⟨gi,0,none⟩) c.length ci):=hcb.1 2;have c3:w.cell? ⟨wb,3,none⟩=some (.slice (some ⟨ga,0,none⟩) c.length ca):=hcb.1 3;have c4:w.cell? ⟨wb,4,none⟩=some (.slice (some ⟨gk,0,none⟩) kn.length ck):=hcb.1 4;have c5:w.cell? ⟨wb,5,none⟩=some (.int .i64 zD):=hcb.1 5;have z5:w.frozen? ⟨wb,5,none⟩=false:=hcb.2 5;have bi:=zDu h.ins;have ba:=zNm h.around;have bk:=zDu h.known;have cgi:w.cell? ⟨gi,pc,none⟩=some (.bool true):=by rw[bi.2.2.1 pc (by rw[h.li];omega),hin]
 have cga:w.cell? ⟨ga,pc,none⟩=some (.int .i64 (a:Int)):=by rw[ba.2.2 pc (by rw[h.la];omega),har]
 have hgi:=bi.2.1;have hga:=ba.2.1;have hgk:=bk.2.1;have hci:c.length<=ci:=by have:=bi.1;rw[h.li]at this;exact this
 have hca:c.length<=ca:=by have:=ba.1;rw[h.la]at this;exact this
 have hck:=bk.1;have CK:Hid (∀j,j<kn.length->w.cell? ⟨gk,j,none⟩=some (.bool (kn.getD j false))):=bk.2.2.1;have ZK:Hid (∀j,w.frozen? ⟨gk,j,none⟩=false):=bk.2.2.2
 have HM:Hid (∀k,k<12->s[32+k]?=some (Mt.gt s (32+k))):=λk hk=>by
  unfold Mt.gt;rw[lH,lK (by omega)];rfl
 have H1:Hid (Mt.gt s 1=(pos:Int)):=by show _=_;unfold Mt.gt;rw[lH,h1];rfl
 have hm:=zQr pc zK.size (by omega) ht;have hm0:=hm.1;have hm1:=hm.2;have hx:=h.apart;have x1:=hx.2.2.2.1;have HKN:Hid (kn.length=c.length*(zK.size+1)*12):=hkn;clear hcb bi ba bk h har hin hm hx hs hkn;unfold stV;go_enter Tryz.func116,Tryz.ntmps116
 go_wp2_with fail
 go_quiet (fail)
 go_wp2_with fail
 go_loopw [5,6] (λn i wr=>∃k d:Nat,k<=12/\k<=a/\i=.int .i64 k/\n=.int .i64 (Mt.kS s k)/\wr=(w.alloc (.cells (s.map (Value.int .i64)).toArray 139)).drewN d) (λ_ i _=>12-(intOf i).toNat)
 case atStart=>exact⟨0,_,by omega,by omega,rfl,rfl,rfl⟩
 case round =>
  obtain⟨k,d,hk1,hk2,rfl,rfl,rfl⟩:=hrel;have hle:=Mt.zAS s k;by_cases hka:k<a
  ·by_cases zSk:k<12
   ·have hsk:=HM.out k zSk;have HN:Hid (Mt.kS s (k+1)=Mt.kS s k+if Mt.gt s (32+k)==Mt.gt s 1 then 1 else 0):=Mt.zCA s k;have b1:decide ((k:Int)<(a:Int))=true:=by simpa using hka
    have b2:decide ((k:Int)<12)=true:=by simp;omega
    go_wp2_with fail
    go_quiet (fail)
    go_wp2_with fail
    cases hq:(Mt.gt s (32+k)==(pos:Int))
    ·have HE:Hid (Mt.kS s (k+1)=Mt.kS s k):=by show _=_;rw[HN.out,H1.out,hq];rfl
     go_quiet (fail)
     go_wp2_with fail
     go_roundw
     case rel=>exact⟨k+1,_,by omega,by omega,by go_num,by rw[HE.out],rfl⟩
     case measure=>simp[intOf];omega
    ·have HE:Hid (Mt.kS s (k+1)=Mt.kS s k+1):=by show _=_;rw[HN.out,H1.out,hq];rfl
     go_quiet (fail)
     go_wp2_with fail
     go_roundw
     case rel=>exact⟨k+1,_,by omega,by omega,by go_num,by rw[HE.out];go_num,rfl⟩
     case measure=>simp[intOf];omega
   ·have b1:decide ((k:Int)<(a:Int))=true:=by simpa using hka
    have b2:decide ((k:Int)<12)=false:=by simp;omega
    have HL:Hid (Mt.kS s k=Mt.lev s a):=by show _=_;unfold Mt.lev;rw[show min a 12=k by omega]
    have hll:=Mt.zOH s a
    have hidx:(pc*(zK.size+1)+pos)*12+Mt.kS s k<kn.length:=by
     rw[HKN.out];exact zOI pc zK.size pos _ c.length hpc dI (by omega) (λe=>by have:=hlast e;omega)
    have ck0:w.cell? ⟨gk,(pc*(zK.size+1)+pos)*12+Mt.kS s k,none⟩=some (.bool (kn.getD ((pc*(zK.size+1)+pos)*12+Mt.kS s k) false)):=CK.out _ hidx;have zk0:w.frozen? ⟨gk,(pc*(zK.size+1)+pos)*12+Mt.kS s k,none⟩=false:=ZK.out _;have HKEY:Hid (Mt.keyOf s pc pos zK.size a=(pc*(zK.size+1)+pos)*12+Mt.kS s k):=by show _=_;unfold Mt.keyOf;rw[HL.out]
    have i0:(0:Int)<=((pc:Int)*((zK.size:Int)+1)+(pos:Int))*12+(Mt.kS s k:Int):=by omega
    have i1:((pc:Int)*((zK.size:Int)+1)+(pos:Int))*12+(Mt.kS s k:Int)<(kn.length:Int):=by
     have e:(((pc*(zK.size+1)+pos)*12+Mt.kS s k:Nat):Int)=((pc:Int)*((zK.size:Int)+1)+(pos:Int))*12+(Mt.kS s k:Int):=by simp
     omega
    clear hll HM;generalize hbit:kn.getD ((pc*(zK.size+1)+pos)*12+Mt.kS s k) false=bit at *;have zFk:Hid (kn.getD (Mt.keyOf s pc pos zK.size a) false=bit):=by show _=_;rw[HKEY.out];exact hbit
    clear hbit;cases bit
    ·by_cases hroom:0<zD
     ·have D1:Hid (Mt.vR kn zD (Mt.keyOf s pc pos zK.size a)=kn.set ((pc*(zK.size+1)+pos)*12+Mt.kS s k) true):=by show _=_;unfold Mt.vR;rw[zFk.out,if_neg (by simp),if_pos hroom,HKEY.out]
      have D2:Hid (Mt.jT kn zD (Mt.keyOf s pc pos zK.size a)=zD-1):=by show _=_;unfold Mt.jT;rw[zFk.out,if_neg (by simp),if_pos hroom]
      go_wp2_with fail
      go_quiet (fail)
      go_wp2_with fail
      go_quiet (fail)
      go_wp2_with fail
      go_ret;refine⟨jC zFk.out.symm,?_,?_⟩
      ·exact Keep.set (p:=⟨gk,_,none⟩) (Keep.set (p:=⟨wb,5,none⟩) (Keep.below (below_drewN ((Below.refl _ _).alloc (lG _) _) _)) (Or.inl rfl) _) (Or.inr (Or.inl rfl)) _
      ·rw[D1.out,D2.out];exact((HW.out.below (below_drewN ((Below.refl _ _).alloc (lG _) _) _)).zIQ (zD-1)).know _
     ·have D1:Hid (Mt.vR kn zD (Mt.keyOf s pc pos zK.size a)=kn):=by show _=_;unfold Mt.vR;rw[zFk.out,if_neg (by simp),if_neg hroom]
      have D2:Hid (Mt.jT kn zD (Mt.keyOf s pc pos zK.size a)=zD):=by show _=_;unfold Mt.jT;rw[zFk.out,if_neg (by simp),if_neg hroom]
      go_wp2_with fail
      go_quiet (fail)
      go_wp2_with fail
      go_quiet (fail)
      go_wp2_with fail
      go_ret;refine⟨jC zFk.out.symm,Keep.below (below_drewN ((Below.refl _ _).alloc (lG _) _) _),?_⟩;rw[D1.out,D2.out];exact HW.out.below (below_drewN ((Below.refl _ _).alloc (lG _) _) _)
    ·have D1:Hid (Mt.vR kn zD (Mt.keyOf s pc pos zK.size a)=kn):=by show _=_;unfold Mt.vR;rw[zFk.out,if_pos rfl]
     have D2:Hid (Mt.jT kn zD (Mt.keyOf s pc pos zK.size a)=zD):=by show _=_;unfold Mt.jT;rw[zFk.out,if_pos rfl]
     go_wp2_with fail
     go_quiet (fail)
     go_wp2_with fail
     go_quiet (fail)
     go_wp2_with fail
     go_ret;refine⟨jC zFk.out.symm,Keep.below (below_drewN ((Below.refl _ _).alloc (lG _) _) _),?_⟩;rw[D1.out,D2.out];exact HW.out.below (below_drewN ((Below.refl _ _).alloc (lG _) _) _)
  ·have b1:decide ((k:Int)<(a:Int))=false:=by simpa using hka
   have HL:Hid (Mt.kS s k=Mt.lev s a):=by show _=_;unfold Mt.lev;rw[show min a 12=k by omega]
   have hll:=Mt.zOH s a
   have hidx:(pc*(zK.size+1)+pos)*12+Mt.kS s k<kn.length:=by
    rw[HKN.out];exact zOI pc zK.size pos _ c.length hpc dI (by omega) (λe=>by have:=hlast e;omega)
   have ck0:w.cell? ⟨gk,(pc*(zK.size+1)+pos)*12+Mt.kS s k,none⟩=some (.bool (kn.getD ((pc*(zK.size+1)+pos)*12+Mt.kS s k) false)):=CK.out _ hidx;have zk0:w.frozen? ⟨gk,(pc*(zK.size+1)+pos)*12+Mt.kS s k,none⟩=false:=ZK.out _;have HKEY:Hid (Mt.keyOf s pc pos zK.size a=(pc*(zK.size+1)+pos)*12+Mt.kS s k):=by show _=_;unfold Mt.keyOf;rw[HL.out]
   have i0:(0:Int)<=((pc:Int)*((zK.size:Int)+1)+(pos:Int))*12+(Mt.kS s k:Int):=by omega
   have i1:((pc:Int)*((zK.size:Int)+1)+(pos:Int))*12+(Mt.kS s k:Int)<(kn.length:Int):=by
    have e:(((pc*(zK.size+1)+pos)*12+Mt.kS s k:Nat):Int)=((pc:Int)*((zK.size:Int)+1)+(pos:Int))*12+(Mt.kS s k:Int):=by simp
    omega
   clear hll HM;generalize hbit:kn.getD ((pc*(zK.size+1)+pos)*12+Mt.kS s k) false=bit at *;have zFk:Hid (kn.getD (Mt.keyOf s pc pos zK.size a) false=bit):=by show _=_;rw[HKEY.out];exact hbit
   clear hbit;cases bit
   ·by_cases hroom:0<zD
    ·have D1:Hid (Mt.vR kn zD (Mt.keyOf s pc pos zK.size a)=kn.set ((pc*(zK.size+1)+pos)*12+Mt.kS s k) true):=by show _=_;unfold Mt.vR;rw[zFk.out,if_neg (by simp),if_pos hroom,HKEY.out]
     have D2:Hid (Mt.jT kn zD (Mt.keyOf s pc pos zK.size a)=zD-1):=by show _=_;unfold Mt.jT;rw[zFk.out,if_neg (by simp),if_pos hroom]
     go_wp2_with fail
     go_quiet (fail)
     go_wp2_with fail
     go_quiet (fail)
     go_wp2_with fail
     go_ret;refine⟨jC zFk.out.symm,?_,?_⟩
     ·exact Keep.set (p:=⟨gk,_,none⟩) (Keep.set (p:=⟨wb,5,none⟩) (Keep.below (below_drewN ((Below.refl _ _).alloc (lG _) _) _)) (Or.inl rfl) _) (Or.inr (Or.inl rfl)) _
     ·rw[D1.out,D2.out];exact((HW.out.below (below_drewN ((Below.refl _ _).alloc (lG _) _) _)).zIQ (zD-1)).know _
    ·have D1:Hid (Mt.vR kn zD (Mt.keyOf s pc pos zK.size a)=kn):=by show _=_;unfold Mt.vR;rw[zFk.out,if_neg (by simp),if_neg hroom]
     have D2:Hid (Mt.jT kn zD (Mt.keyOf s pc pos zK.size a)=zD):=by show _=_;unfold Mt.jT;rw[zFk.out,if_neg (by simp),if_neg hroom]
     go_wp2_with fail
     go_quiet (fail)
     go_wp2_with fail
     go_quiet (fail)
     go_wp2_with fail
     go_ret;refine⟨jC zFk.out.symm,Keep.below (below_drewN ((Below.refl _ _).alloc (lG _) _) _),?_⟩;rw[D1.out,D2.out];exact HW.out.below (below_drewN ((Below.refl _ _).alloc (lG _) _) _)
   ·have D1:Hid (Mt.vR kn zD (Mt.keyOf s pc pos zK.size a)=kn):=by show _=_;unfold Mt.vR;rw[zFk.out,if_pos rfl]
    have D2:Hid (Mt.jT kn zD (Mt.keyOf s pc pos zK.size a)=zD):=by show _=_;unfold Mt.jT;rw[zFk.out,if_pos rfl]
    go_wp2_with fail
    go_quiet (fail)
    go_wp2_with fail
    go_quiet (fail)
    go_wp2_with fail
    go_ret;refine⟨jC zFk.out.symm,Keep.below (below_drewN ((Below.refl _ _).alloc (lG _) _) _),?_⟩;rw[D1.out,D2.out];exact HW.out.below (below_drewN ((Below.refl _ _).alloc (lG _) _) _)
theorem Tryz.size117:(Tryz.prog.info? 139).map (·.size)=some 44:=by kernel_rfl
theorem zBb(b:Nat)(t:TypeId):∀(vs:List Value) (o:Nat) (w:World) (C:Array Value),w.heap[b]?=some (.cells C t (0,0))->∃D:Array Value,(w.setCells b o vs).heap[b]?=some (.cells D t (0,0))/\D.size=C.size
 | [],o,w,C,h=>⟨C,h,rfl⟩
 | v::r,o,w,C,h=>by
  obtain⟨D,h1,h2⟩:=zBb b t r (o+1) (w.setCell ⟨b,o,none⟩ v) _ (Go.heap_setCell_same w b o C t v h);exact⟨D,h1,by rw[h2];simp⟩
theorem qB(b:Nat):∀(vs:List Value) (o:Nat) (w:World) (k:Nat),k≠b->(w.setCells b o vs).heap[k]?=w.heap[k]?
 | [],o,w,k,h=>rfl
 | v::r,o,w,k,h=>by
  show((w.setCell ⟨b,o,none⟩ v).setCells b (o+1) r).heap[k]?=_;rw[qB b r (o+1) _ k h,Below.heap_setCell _ _ _ _ h]
theorem yT{w:World}{b:Nat}{t:TypeId}{B:Array Value}(h:w.heap[b]?=some (.cells B t (0,0)))(cs:Array Value)(hs:cs.size=B.size) :
  (w.setCells b 0 cs.toList).heap[b]?=some (.cells cs t (0,0)):=by
 obtain⟨D,h1,h2⟩:=zBb b t cs.toList 0 w B h;have hb:=zC h;obtain⟨w2,e,q1,_⟩:=zAv hb.1 hb.2 cs hs;have hd:=zC h1
 have:D=cs:=by
  apply Array.ext (by omega);intro i hi1 hi2;have a1:=hd.1 i;have a2:=q1 i;rw[e]at a2;rw[a2,Array.getElem?_eq_getElem hi1,Array.getElem?_eq_getElem hi2]at a1;simpa using a1.symm
 rw[h1,this]
theorem yI{w:World}{b:Nat}{t:TypeId}{A:Array Value}(h:w.heap[b]?=some (.cells A t (0,0))):w.rangeAt b 0 A.toList:=λj v hv=>by
 rw[Nat.zero_add,(zC h).1 j];simpa using hv
theorem zP{ops:Array Oper}{rest:List Oper}{op:Oper}{a:Act}{w:World}{Q:Exit->Act->World->Prop}(hgd:op.guard=none)(x:Operand)(ho:op.op=.load 139 x)
  (b:Nat) (hx:a.eval x=.pointer (some ⟨b,0,none⟩)) {t:TypeId} {A:Array Value} (hA:w.heap[b]?=some (.cells A t (0,0))) (hs:A.size=44)
  (h:wpList Tryz.prog ops Q rest (a.put op.dst (.agg A)) w):wpList Tryz.prog ops Q (op::rest) a w :=
 wpList_load_mid hgd _ x ho b 0 hx A.toList _ (yI hA) Tryz.underlying139 rfl (by rw[Tryz.size117];simp[hs]) h
theorem zL{ops:Array Oper}{rest:List Oper}{op:Oper}{a:Act}{w:World}{Q:Exit->Act->World->Prop}(hgd:op.guard=none)(x y:Operand)(ho:op.op=.store 139 x y)
  (b:Nat) (cs:Array Value) (hx:a.eval x=.pointer (some ⟨b,0,none⟩)) (hy:a.eval y=.agg cs) {t:TypeId} {B:Array Value} (hB:w.heap[b]?=some (.cells B t (0,0))) (hs:B.size=44) (hc:cs.size=44) (h1:cs.all (·.oneCell')=true)
  (h:∀w2:World,w2.heap[b]?=some (.cells cs t (0,0))->(∀k,k≠b->w2.heap[k]?=w.heap[k]?)->w2.heap.size=w.heap.size->(∀L,L<=b->Below L w w2)->wpList Tryz.prog ops Q rest (a.put op.dst undef) w2):wpList Tryz.prog ops Q (op::rest) a w:=by
 have hb:=zC hB;refine wpList_store_mid hgd _ x y ho b 0 cs hx hy (qW hb.1 hb.2 _ (by omega)) (by rw[Tryz.size117,hc]) h1 ?_;exact h _ (yT hB cs (by omega)) (λk hk=>qB b _ 0 w k hk) (below_setCells b _ 0 w 0 (Nat.zero_le _)).2 (λL hL=>(below_setCells b _ 0 w L hL).1)
theorem pU{fn:Func}{p u:Tmp}(hr:fn.results=#[.cell p 139,.tmp u]){tmps:Array Value}{w:World}{b:Nat}{t:TypeId}{A:Array Value}(hp:tmps.getD p undef=.pointer (some ⟨b,0,none⟩))(hA:w.heap[b]?=some (.cells A t (0,0)))(hs:A.size=44) :
  (results fn tmps).run Tryz.prog w=.ok (.tuple #[.agg A,tmps.getD u undef]) w:=by
 rw[results_cell_tmp hr,hp];have:=run_loadVar_mid (P:=Tryz.prog) w b 0 139 A.toList _ (yI hA) Tryz.underlying139 rfl (by rw[Tryz.size117];simp[hs]);simp[asAddr,Result.andThen,this]
theorem nC(w:World)(A B C:Obj):(((w.alloc A).alloc B).alloc C).heap[w.heap.size]?=some A:=by
 rw[kT _ _ _ (by simp;omega),kT _ _ _ (by simp),heap_alloc_new]
theorem zAp(w:World)(A B C:Obj):(((w.alloc A).alloc B).alloc C).heap[w.heap.size+1+1]?=some C:=by
 have:((w.alloc A).alloc B).heap.size=w.heap.size+1+1:=by simp
 rw[<-this,heap_alloc_new]
def zBn:Obj:=.cells #[Value.int IntKind.i64 0,Value.int IntKind.i64 0,Value.int IntKind.i64 0,Value.int IntKind.i64 0,Value.int IntKind.i64 0,Value.int IntKind.i64 0,Value.int IntKind.i64 0,Value.int IntKind.i64 0,Value.int IntKind.i64 0,Value.int IntKind.i64 0,Value.int IntKind.i64 0,Value.int IntKind.i64 0,Value.int IntKind.i64 0,Value.int IntKind.i64 0,Value.int IntKind.i64 0,Value.int IntKind.i64 0,Value.int IntKind.i64 0,Value.int IntKind.i64 0,Value.int IntKind.i64 0,Value.int IntKind.i64 0,Value.int IntKind.i64 0,Value.int IntKind.i64 0,Value.int IntKind.i64 0,Value.int IntKind.i64 0,Value.int IntKind.i64 0,Value.int IntKind.i64 0,Value.int IntKind.i64 0,Value.int IntKind.i64 0,Value.int IntKind.i64 0,Value.int IntKind.i64 0,Value.int IntKind.i64 0,Value.int IntKind.i64 0,Value.int IntKind.i64 0,Value.int IntKind.i64 0,Value.int IntKind.i64 0,Value.int IntKind.i64 0,Value.int IntKind.i64 0,Value.int IntKind.i64 0,Value.int IntKind.i64 0,Value.int IntKind.i64 0,Value.int IntKind.i64 0,Value.int IntKind.i64 0,Value.int IntKind.i64 0,Value.int IntKind.i64 0] 139
theorem dB:Obj.cells #[Value.int IntKind.i64 0,Value.int IntKind.i64 0,Value.int IntKind.i64 0,Value.int IntKind.i64 0,Value.int IntKind.i64 0,Value.int IntKind.i64 0,Value.int IntKind.i64 0,Value.int IntKind.i64 0,Value.int IntKind.i64 0,Value.int IntKind.i64 0,Value.int IntKind.i64 0,Value.int IntKind.i64 0,Value.int IntKind.i64 0,Value.int IntKind.i64 0,Value.int IntKind.i64 0,Value.int IntKind.i64 0,Value.int IntKind.i64 0,Value.int IntKind.i64 0,Value.int IntKind.i64 0,Value.int IntKind.i64 0,Value.int IntKind.i64 0,Value.int IntKind.i64 0,Value.int IntKind.i64 0,Value.int IntKind.i64 0,Value.int IntKind.i64 0,Value.int IntKind.i64 0,Value.int IntKind.i64 0,Value.int IntKind.i64 0,Value.int IntKind.i64 0,Value.int IntKind.i64 0,Value.int IntKind.i64 0,Value.int IntKind.i64 0,Value.int IntKind.i64 0,Value.int IntKind.i64 0,Value.int IntKind.i64 0,Value.int IntKind.i64 0,Value.int IntKind.i64 0,Value.int IntKind.i64 0,Value.int IntKind.i64 0,Value.int IntKind.i64 0,Value.int IntKind.i64 0,Value.int IntKind.i64 0,Value.int IntKind.i64 0,Value.int IntKind.i64 0] 139=zBn:=rfl
def zAT(x:Mt.zTG):Value:=.agg #[.int .i64 x.op,.int .i64 x.x,.int .i64 x.y,.string ⟨x.set.toArray⟩]
theorem zQs(s:List Int)(i:Nat)(v:Int):((s.map (Value.int .i64)).toArray).setIfInBounds i (.int .i64 v)=((s.set i v).map (Value.int .i64)).toArray:=by
 simp[List.map_set]
theorem qD(s:List Int):((s.map (Value.int .i64)).toArray).all (·.oneCell')=true:=by
 simp[Value.oneCell']
theorem zO8(s:List Int)(i:Nat)(v:Int):(((s.map (Value.int .i64)).set i (.int .i64 v)).toArray).all (·.oneCell')=true:=by
 rw[<-List.map_set];exact qD _
theorem qF(s:List Int)(i:Nat)(v:Int):((s.map (Value.int .i64)).set i (.int .i64 v))=(s.set i v).map (Value.int .i64):=by rw[List.map_set]
theorem zNq{w:World}{wb gc gi ga gk cc ci ca ck:Nat}{c:List Mt.zTG}{zK:ByteArray}{zTM:List Bool}{ar:List Int}{zA:Int}{kn:List Bool}{zD qE:Int}{qI:Bool}
  (h:zU w wb gc gi ga gk cc ci ca ck c zK zTM ar zA kn zD qE qI) (s:List Int) (x:Mt.zTG) (pc pos:Nat) (h0:s[0]?=some (pc:Int)) (h1:s[1]?=some (pos:Int)) (hs:s.length=44)
  (o1:(x.op==1)=false) (o3:(x.op==3)=true) :
  Calls Tryz.prog 118 #[.pointer (some ⟨wb,0,none⟩),stV s,zAT x] w λe w'=>e=.returned (.tuple #[stV (s.set 0 x.x),.bool true])/\Below w.heap.size w w':=by
 have HS:Hid (s.length=44):=hs;clear hs h;unfold stV zAT;have hz:=dB;go_enter Tryz.func118,Tryz.ntmps118
 go_wp2_with (first|(refine zP (by rfl) (.tmp 4) (by rfl) w.heap.size (by rfl) (by exact nC _ _ _ _) (by simp[HS.out]) ?_)|(refine zL (by rfl) (.tmp 6) (.tmp 41) (by rfl) (w.heap.size+1+1) _ (by rfl) (by rfl) (by exact zAp _ _ _ _) (by rfl) (by simp[HS.out]) (zO8 _ _ _) ?_;intro w2 r1 r2 r3 r4))
 have hB:Below w.heap.size w w2:=((((Below.refl _ _).alloc (lG _) _).alloc (by simp) _).alloc (by simp;omega) _).trans (r4 _ (by omega));clear r2 r3 r4;refine bodyPost_ret (pU rfl (by rfl) r1 (by simp[HS.out])) rfl ⟨?_,hB⟩;rw[qF];rfl
theorem zNr{w:World}{wb gc gi ga gk cc ci ca ck:Nat}{c:List Mt.zTG}{zK:ByteArray}{zTM:List Bool}{ar:List Int}{zA:Int}{kn:List Bool}{zD qE:Int}{qI:Bool}
  (h:zU w wb gc gi ga gk cc ci ca ck c zK zTM ar zA kn zD qE qI) (s:List Int) (x:Mt.zTG) (pc pos:Nat) (h0:s[0]?=some (pc:Int)) (h1:s[1]?=some (pos:Int)) (hs:s.length=44) (hpc:pc<=300) (dI:pos<=zK.size) (ht:zK.size<=60)
  (o1:(x.op==1)=false) (o3:(x.op==3)=false) (o4:(x.op==4)=false) (o5:(x.op==5)=false) (o6:(x.op==6)=false) (o7:(x.op==7)=false) (o8:(x.op==8)=false) (o9:(x.op==9)=true) :
  Calls Tryz.prog 118 #[.pointer (some ⟨wb,0,none⟩),stV s,zAT x] w λe w'=>e=.returned (.tuple #[stV (s.set 0 ((pc:Int)+1)),.bool ((pos:Int)==0)])/\Below w.heap.size w w':=by
 have HS:Hid (s.length=44):=hs;have hcb:=zC h.cell;have hwb:wb<w.heap.size:=(lI.1 h.cell).1;have c1:w.cell? ⟨wb,1,none⟩=some (.string zK):=hcb.1 1;clear hs h hcb;unfold stV zAT;have hz:=dB;go_enter Tryz.func118,Tryz.ntmps118
 go_wp2_with (first|(refine zP (by rfl) (.tmp 4) (by rfl) w.heap.size (by rfl) (by exact nC _ _ _ _) (by simp[HS.out]) ?_)|(refine zL (by rfl) (.tmp 6) (.tmp 121) (by rfl) (w.heap.size+1+1) _ (by rfl) (by rfl) (by exact zAp _ _ _ _) (by rfl) (by simp[HS.out]) (by simp only[qF];exact qD _) ?_;intro w2 r1 r2 r3 r4))
 have hB:Below w.heap.size w w2:=((((Below.refl _ _).alloc (lG _) _).alloc (by simp) _).alloc (by simp;omega) _).trans (r4 _ (by omega));clear r2 r3 r4;refine bodyPost_ret (pU rfl (by rfl) r1 (by simp[HS.out])) rfl ⟨?_,hB⟩;simp only[qF];rfl
theorem zNs{w:World}{wb gc gi ga gk cc ci ca ck:Nat}{c:List Mt.zTG}{zK:ByteArray}{zTM:List Bool}{ar:List Int}{zA:Int}{kn:List Bool}{zD qE:Int}{qI:Bool}
  (h:zU w wb gc gi ga gk cc ci ca ck c zK zTM ar zA kn zD qE qI) (s:List Int) (x:Mt.zTG) (pc pos:Nat) (h0:s[0]?=some (pc:Int)) (h1:s[1]?=some (pos:Int)) (hs:s.length=44) (hpc:pc<=300) (dI:pos<=zK.size) (ht:zK.size<=60)
  (o1:(x.op==1)=false) (o3:(x.op==3)=false) (o4:(x.op==4)=false) (o5:(x.op==5)=false) (o6:(x.op==6)=false) (o7:(x.op==7)=false) (o8:(x.op==8)=false) (o9:(x.op==9)=false) (o10:(x.op==10)=false) :
  Calls Tryz.prog 118 #[.pointer (some ⟨wb,0,none⟩),stV s,zAT x] w λe w'=>e=.returned (.tuple #[stV (s.set 0 ((pc:Int)+1)),.bool true])/\Below w.heap.size w w':=by
 have HS:Hid (s.length=44):=hs;have hcb:=zC h.cell;have hwb:wb<w.heap.size:=(lI.1 h.cell).1;have c1:w.cell? ⟨wb,1,none⟩=some (.string zK):=hcb.1 1;clear hs h hcb;unfold stV zAT;have hz:=dB;go_enter Tryz.func118,Tryz.ntmps118
 go_wp2_with (first|(refine zP (by rfl) (.tmp 4) (by rfl) w.heap.size (by rfl) (by exact nC _ _ _ _) (by simp[HS.out]) ?_)|(refine zL (by rfl) (.tmp 6) (.tmp 121) (by rfl) (w.heap.size+1+1) _ (by rfl) (by rfl) (by exact zAp _ _ _ _) (by rfl) (by simp[HS.out]) (by simp only[qF];exact qD _) ?_;intro w2 r1 r2 r3 r4))
 have hB:Below w.heap.size w w2:=((((Below.refl _ _).alloc (lG _) _).alloc (by simp) _).alloc (by simp;omega) _).trans (r4 _ (by omega));clear r2 r3 r4;refine bodyPost_ret (pU rfl (by rfl) r1 (by simp[HS.out])) rfl ⟨?_,hB⟩;simp only[qF];rfl
theorem zNt{w:World}{wb gc gi ga gk cc ci ca ck:Nat}{c:List Mt.zTG}{zK:ByteArray}{zTM:List Bool}{ar:List Int}{zA:Int}{kn:List Bool}{zD qE:Int}{qI:Bool}
  (h:zU w wb gc gi ga gk cc ci ca ck c zK zTM ar zA kn zD qE qI) (s:List Int) (x:Mt.zTG) (pc pos:Nat) (h0:s[0]?=some (pc:Int)) (h1:s[1]?=some (pos:Int)) (hs:s.length=44) (hpc:pc<=300) (dI:pos<=zK.size) (ht:zK.size<=60)
  (o1:(x.op==1)=false) (o3:(x.op==3)=false) (o4:(x.op==4)=true) (x0:0<=x.x) (x1:x.x<12) :
  Calls Tryz.prog 118 #[.pointer (some ⟨wb,0,none⟩),stV s,zAT x] w λe w'=>e=.returned (.tuple #[stV ((s.set (32+x.x.toNat) (pos:Int)).set 0 ((pc:Int)+1)),.bool true])/\Below w.heap.size w w':=by
 have HS:Hid (s.length=44):=hs;have hcb:=zC h.cell;have hwb:wb<w.heap.size:=(lI.1 h.cell).1;have c1:w.cell? ⟨wb,1,none⟩=some (.string zK):=hcb.1 1;have hmk:s[32+x.x.toNat]?=some (Mt.gt s (32+x.x.toNat)):=by unfold Mt.gt;rw[lH,lK (by omega)];rfl
 clear hs h hcb;unfold stV zAT;have hz:=dB;go_enter Tryz.func118,Tryz.ntmps118
 go_wp2_with (first|(refine zP (by rfl) (.tmp 4) (by rfl) w.heap.size (by rfl) (by exact nC _ _ _ _) (by simp[HS.out]) ?_)|(refine zL (by rfl) (.tmp 6) (.tmp 121) (by rfl) (w.heap.size+1+1) _ (by rfl) (by rfl) (by exact zAp _ _ _ _) (by rfl) (by simp[HS.out]) (by simp only[qF];exact qD _) ?_;intro w2 r1 r2 r3 r4))
 have hB:Below w.heap.size w w2:=((((Below.refl _ _).alloc (lG _) _).alloc (by simp) _).alloc (by simp;omega) _).trans (r4 _ (by omega));clear r2 r3 r4;refine bodyPost_ret (pU rfl (by rfl) r1 (by simp[HS.out])) rfl ⟨?_,hB⟩;simp only[qF];rfl
theorem zNu{w:World}{wb gc gi ga gk cc ci ca ck:Nat}{c:List Mt.zTG}{zK:ByteArray}{zTM:List Bool}{ar:List Int}{zA:Int}{kn:List Bool}{zD qE:Int}{qI:Bool}
  (h:zU w wb gc gi ga gk cc ci ca ck c zK zTM ar zA kn zD qE qI) (s:List Int) (x:Mt.zTG) (pc pos:Nat) (h0:s[0]?=some (pc:Int)) (h1:s[1]?=some (pos:Int)) (hs:s.length=44) (hpc:pc<=300) (dI:pos<=zK.size) (ht:zK.size<=60)
  (o1:(x.op==1)=false) (o3:(x.op==3)=false) (o4:(x.op==4)=false) (o5:(x.op==5)=false) (o6:(x.op==6)=true) (x0:0<=x.x) (x1:x.x<10) :
  Calls Tryz.prog 118 #[.pointer (some ⟨wb,0,none⟩),stV s,zAT x] w λe w'=>e=.returned (.tuple #[stV ((s.set (22+x.x.toNat) (pos:Int)).set 0 ((pc:Int)+1)),.bool true])/\Below w.heap.size w w':=by
 have HS:Hid (s.length=44):=hs;have hcb:=zC h.cell;have hwb:wb<w.heap.size:=(lI.1 h.cell).1;have c1:w.cell? ⟨wb,1,none⟩=some (.string zK):=hcb.1 1;have hmk:s[22+x.x.toNat]?=some (Mt.gt s (22+x.x.toNat)):=by unfold Mt.gt;rw[lH,lK (by omega)];rfl
 have zOJ:wb<w.heap.size+1:=by omega
 have zQt:wb<w.heap.size+1+1:=by omega
 have hdn:∀(W:World) (n:Nat) (a:Addr) (v:Value),(W.drewN n).setCell a v=(W.setCell a v).drewN n:=λ_ _ _ _=>rfl
 clear hs h hcb;unfold stV zAT;have hz:=dB;go_enter Tryz.func118,Tryz.ntmps118
 go_wp2_with (first|(refine zP (by rfl) (.tmp 4) (by rfl) w.heap.size (by rfl) (by exact nC _ _ _ _) (by simp[HS.out]) ?_)|(refine zL (by rfl) (.tmp 6) (.tmp 121) (by rfl) (w.heap.size+1+1) _ (by rfl) (by rfl) (by exact zAp _ _ _ _) (by rfl) (by simp[HS.out]) (by simp only[qF];exact qD _) ?_;intro w2 r1 r2 r3 r4))
 have hB:Below w.heap.size w w2:=((((Below.refl _ _).alloc (lG _) _).alloc (by simp) _).alloc (by simp;omega) _).trans (r4 _ (by omega));clear r2 r3 r4;refine bodyPost_ret (pU rfl (by rfl) r1 (by simp[HS.out])) rfl ⟨?_,hB⟩;simp only[qF];rfl
theorem zNv{w:World}{wb gc gi ga gk cc ci ca ck:Nat}{c:List Mt.zTG}{zK:ByteArray}{zTM:List Bool}{ar:List Int}{zA:Int}{kn:List Bool}{zD qE:Int}{qI:Bool}
  (h:zU w wb gc gi ga gk cc ci ca ck c zK zTM ar zA kn zD qE qI) (s:List Int) (x:Mt.zTG) (pc pos:Nat) (h0:s[0]?=some (pc:Int)) (h1:s[1]?=some (pos:Int)) (hs:s.length=44) (hpc:pc<=300) (dI:pos<=zK.size) (ht:zK.size<=60)
  (o1:(x.op==1)=false) (o3:(x.op==3)=false) (o4:(x.op==4)=false) (o5:(x.op==5)=false) (o6:(x.op==6)=false) (o7:(x.op==7)=false) (o8:(x.op==8)=false) (o9:(x.op==9)=false) (o10:(x.op==10)=true) :
  Calls Tryz.prog 118 #[.pointer (some ⟨wb,0,none⟩),stV s,zAT x] w λe w'=>e=.returned (.tuple #[stV (s.set 0 ((pc:Int)+1)),.bool ((pos:Int)==(zK.size:Int))])/\Below w.heap.size w w':=by
 have HS:Hid (s.length=44):=hs;have hcb:=zC h.cell;have hwb:wb<w.heap.size:=(lI.1 h.cell).1;have c1:w.cell? ⟨wb,1,none⟩=some (.string zK):=hcb.1 1;have zOJ:wb<w.heap.size+1:=by omega
 have zQt:wb<w.heap.size+1+1:=by omega
 have hdn:∀(W:World) (n:Nat) (a:Addr) (v:Value),(W.drewN n).setCell a v=(W.setCell a v).drewN n:=λ_ _ _ _=>rfl
 clear hs h hcb;unfold stV zAT;have hz:=dB;go_enter Tryz.func118,Tryz.ntmps118
 go_wp2_with fail
 go_quiet (fail)
 go_wp2_with (first|(refine zP (by rfl) (.tmp 4) (by rfl) w.heap.size (by rfl) (by exact nC _ _ _ _) (by simp[HS.out]) ?_)|(refine zL (by rfl) (.tmp 6) (.tmp 121) (by rfl) (w.heap.size+1+1) _ (by rfl) (by rfl) (by exact zAp _ _ _ _) (by rfl) (by simp[HS.out]) (by simp only[qF];exact qD _) ?_;intro w2 r1 r2 r3 r4))
 have hB:Below w.heap.size w w2:=(below_drewN ((((Below.refl _ _).alloc (lG _) _).alloc (by simp) _).alloc (by simp;omega) _) _).trans (r4 _ (by omega));clear r2 r3 r4;refine bodyPost_ret (pU rfl (by rfl) r1 (by simp[HS.out])) rfl ⟨?_,hB⟩;simp only[qF];rfl
theorem zLm{w:World}{wb gc gi ga gk cc ci ca ck:Nat}{c:List Mt.zTG}{zK:ByteArray}{zTM:List Bool}{ar:List Int}{zA:Int}{kn:List Bool}{zD qE:Int}{qI:Bool}
  (h:zU w wb gc gi ga gk cc ci ca ck c zK zTM ar zA kn zD qE qI) (s:List Int) (x:Mt.zTG) (pc pos:Nat) (h0:s[0]?=some (pc:Int)) (h1:s[1]?=some (pos:Int)) (hs:s.length=44) (hpc:pc<=300) (dI:pos<=zK.size) (ht:zK.size<=60)
  (o1:(x.op==1)=false) (o3:(x.op==3)=false) (o4:(x.op==4)=false) (o5:(x.op==5)=true) (x0:0<=x.y) (x1:x.y<12) :
  Calls Tryz.prog 118 #[.pointer (some ⟨wb,0,none⟩),stV s,zAT x] w λe w'=>e=.returned (.tuple #[stV (s.set 0 x.x),.bool (Mt.gt s (32+x.y.toNat) != (pos:Int))])/\Below w.heap.size w w':=by
 have HS:Hid (s.length=44):=hs;have hcb:=zC h.cell;have hwb:wb<w.heap.size:=(lI.1 h.cell).1;have c1:w.cell? ⟨wb,1,none⟩=some (.string zK):=hcb.1 1;have hmk:s[32+x.y.toNat]?=some (Mt.gt s (32+x.y.toNat)):=by unfold Mt.gt;rw[lH,lK (by omega)];rfl
 have zOJ:wb<w.heap.size+1:=by omega
 have zQt:wb<w.heap.size+1+1:=by omega
 have hdn:∀(W:World) (n:Nat) (a:Addr) (v:Value),(W.drewN n).setCell a v=(W.setCell a v).drewN n:=λ_ _ _ _=>rfl
 clear hs h hcb;unfold stV zAT;have hz:=dB;go_enter Tryz.func118,Tryz.ntmps118
 go_wp2_with fail
 go_quiet (fail)
 go_wp2_with (first|(refine zP (by rfl) (.tmp 4) (by rfl) w.heap.size (by rfl) (by exact nC _ _ _ _) (by simp[HS.out]) ?_)|(refine zL (by rfl) (.tmp 6) (.tmp 63) (by rfl) (w.heap.size+1+1) _ (by rfl) (by rfl) (by exact zAp _ _ _ _) (by rfl) (by simp[HS.out]) (by simp only[qF];exact qD _) ?_;intro w2 r1 r2 r3 r4))
 have hB:Below w.heap.size w w2:=(below_drewN ((((Below.refl _ _).alloc (lG _) _).alloc (by simp) _).alloc (by simp;omega) _) _).trans (r4 _ (by omega));clear r2 r3 r4;refine bodyPost_ret (pU rfl (by rfl) r1 (by simp[HS.out])) rfl ⟨?_,hB⟩;simp only[qF];rfl
theorem zLn{w:World}{wb gc gi ga gk cc ci ca ck:Nat}{c:List Mt.zTG}{zK:ByteArray}{zTM:List Bool}{ar:List Int}{zA:Int}{kn:List Bool}{zD qE:Int}{qI:Bool}
  (h:zU w wb gc gi ga gk cc ci ca ck c zK zTM ar zA kn zD qE qI) (s:List Int) (x:Mt.zTG) (pc pos:Nat) (h0:s[0]?=some (pc:Int)) (h1:s[1]?=some (pos:Int)) (hs:s.length=44) (hpc:pc<=300) (dI:pos<=zK.size) (ht:zK.size<=60)
  (o1:(x.op==1)=false) (o3:(x.op==3)=false) (o4:(x.op==4)=false) (o5:(x.op==5)=false) (o6:(x.op==6)=false) (o7:(x.op==7)=true) (x0:0<=x.x) (x1:x.x<10) :
  Calls Tryz.prog 118 #[.pointer (some ⟨wb,0,none⟩),stV s,zAT x] w λe w'=>e=.returned (.tuple #[stV (((s.set (2+(2*x.x).toNat) (Mt.gt s (22+x.x.toNat))).set (2+(2*x.x+1).toNat) (pos:Int)).set 0 ((pc:Int)+1)),.bool true])/\Below w.heap.size w w':=by
 have HS:Hid (s.length=44):=hs;have hcb:=zC h.cell;have hwb:wb<w.heap.size:=(lI.1 h.cell).1;have c1:w.cell? ⟨wb,1,none⟩=some (.string zK):=hcb.1 1;have hmk:s[22+x.x.toNat]?=some (Mt.gt s (22+x.x.toNat)):=by unfold Mt.gt;rw[lH,lK (by omega)];rfl
 have zS2:s[2+(2*x.x).toNat]?=some (Mt.gt s (2+(2*x.x).toNat)):=by unfold Mt.gt;rw[lH,lK (by omega)];rfl
 have zSl:s[2+(2*x.x+1).toNat]?=some (Mt.gt s (2+(2*x.x+1).toNat)):=by unfold Mt.gt;rw[lH,lK (by omega)];rfl
 have q1:((s.map (Value.int .i64)).set (2+(2*x.x).toNat) (.int .i64 (Mt.gt s (22+x.x.toNat))))[1]?=some (.int .i64 (pos:Int)):=by
  rw[List.getElem?_set_ne (by omega),List.getElem?_map,h1];rfl
 have q2:((s.map (Value.int .i64)).set (2+(2*x.x).toNat) (.int .i64 (Mt.gt s (22+x.x.toNat))))[2+(2*x.x+1).toNat]?=some (.int .i64 (Mt.gt s (2+(2*x.x+1).toNat))):=by
  rw[List.getElem?_set_ne (by omega),List.getElem?_map,zSl];rfl
 have q3:(((s.map (Value.int .i64)).set (2+(2*x.x).toNat) (.int .i64 (Mt.gt s (22+x.x.toNat)))).set (2+(2*x.x+1).toNat) (.int .i64 (pos:Int)))[0]?=some (.int .i64 (pc:Int)):=by
  rw[List.getElem?_set_ne (by omega),List.getElem?_set_ne (by omega),List.getElem?_map,h0];rfl
 have zOJ:wb<w.heap.size+1:=by omega
 have zQt:wb<w.heap.size+1+1:=by omega
 have hdn:∀(W:World) (n:Nat) (a:Addr) (v:Value),(W.drewN n).setCell a v=(W.setCell a v).drewN n:=λ_ _ _ _=>rfl
 clear hs h hcb;unfold stV zAT;have hz:=dB;go_enter Tryz.func118,Tryz.ntmps118
 go_wp2_with fail
 go_region
 go_wp2_with (first|(refine zP (by rfl) (.tmp 4) (by rfl) w.heap.size (by rfl) (by exact nC _ _ _ _) (by simp[HS.out]) ?_)|(refine zL (by rfl) (.tmp 6) (.tmp 121) (by rfl) (w.heap.size+1+1) _ (by rfl) (by rfl) (by exact zAp _ _ _ _) (by rfl) (by simp[HS.out]) (by simp only[qF];exact qD _) ?_;intro w2 r1 r2 r3 r4))
 have hB:Below w.heap.size w w2:=(((((Below.refl _ _).alloc (lG _) _).alloc (by simp) _).alloc (by simp;omega) _).drew).trans (r4 _ (by omega));clear r2 r3 r4;refine bodyPost_ret (pU rfl (by rfl) r1 (by simp[HS.out])) rfl ⟨?_,hB⟩;simp only[qF];rfl
theorem zHW{P:Program}{f:FuncId}{args:Array Value}{X:World}{a b:Nat}{v:Value}(h:Calls P f args (X.drewN (a+b)) λe w'=>e=.returned v/\w'=X.drewN (a+b)) :
  Calls P f args (X.drewN (a+b)) λe w''=>e=.returned v/\∃n,w''=X.drewN (a+n):=h.mono λ_ _ hh=>⟨hh.1,b,hh.2⟩
theorem zNw{w:World}{wb gc gi ga gk cc ci ca ck:Nat}{c:List Mt.zTG}{zK:ByteArray}{zTM:List Bool}{ar:List Int}{zA:Int}{kn:List Bool}{zD qE:Int}{qI:Bool}
  (h:zU w wb gc gi ga gk cc ci ca ck c zK zTM ar zA kn zD qE qI) (s:List Int) (x:Mt.zTG) (pc pos:Nat) (h0:s[0]?=some (pc:Int)) (h1:s[1]?=some (pos:Int)) (hs:s.length=44) (hpc:pc<=300) (dI:pos<=zK.size) (ht:zK.size<=60)
  (o1:(x.op==1)=true) (hp:¬pos<zK.size) :
  Calls Tryz.prog 118 #[.pointer (some ⟨wb,0,none⟩),stV s,zAT x] w λe w'=>e=.returned (.tuple #[stV ((s.set 1 ((pos:Int)+1)).set 0 ((pc:Int)+1)),.bool false])/\Below w.heap.size w w':=by
 have HS:Hid (s.length=44):=hs;have hcb:=zC h.cell;have hwb:wb<w.heap.size:=(lI.1 h.cell).1;have c1:w.cell? ⟨wb,1,none⟩=some (.string zK):=hcb.1 1;have zOJ:wb<w.heap.size+1:=by omega
 have zQt:wb<w.heap.size+1+1:=by omega
 have hdn:∀(W:World) (n:Nat) (a:Addr) (v:Value),(W.drewN n).setCell a v=(W.setCell a v).drewN n:=λ_ _ _ _=>rfl
 clear hs h hcb;unfold stV zAT;have hz:=dB;go_enter Tryz.func118,Tryz.ntmps118
 go_wp2_with fail
 go_quiet (fail)
 go_wp2_with (first|(refine zP (by rfl) (.tmp 4) (by rfl) w.heap.size (by rfl) (by exact nC _ _ _ _) (by simp[HS.out]) ?_)|(refine zL (by rfl) (.tmp 6) (.tmp 121) (by rfl) (w.heap.size+1+1) _ (by rfl) (by rfl) (by exact zAp _ _ _ _) (by rfl) (by simp[HS.out]) (by simp only[qF];exact qD _) ?_;intro w2 r1 r2 r3 r4))
 have hB:Below w.heap.size w w2:=(below_drewN ((((Below.refl _ _).alloc (lG _) _).alloc (by simp) _).alloc (by simp;omega) _) _).trans (r4 _ (by omega));clear r2 r3 r4;refine bodyPost_ret (pU rfl (by rfl) r1 (by simp[HS.out])) rfl ⟨?_,hB⟩;simp only[qF];rfl
theorem one_byte{w:World}{wb gc gi ga gk cc ci ca ck:Nat}{c:List Mt.zTG}{zK:ByteArray}{zTM:List Bool}{ar:List Int}{zA:Int}{kn:List Bool}{zD qE:Int}{qI:Bool}
  (h:zU w wb gc gi ga gk cc ci ca ck c zK zTM ar zA kn zD qE qI) (s:List Int) (x:Mt.zTG) (pc pos:Nat) (h0:s[0]?=some (pc:Int)) (h1:s[1]?=some (pos:Int)) (hs:s.length=44) (hpc:pc<=300) (dI:pos<=zK.size) (ht:zK.size<=60)
  (o1:(x.op==1)=true) (hp:pos<zK.size) (hset:x.set.length<=256) :
  Calls Tryz.prog 118 #[.pointer (some ⟨wb,0,none⟩),stV s,zAT x] w λe w'=>e=.returned (.tuple #[stV ((s.set 1 ((pos:Int)+1)).set 0 ((pc:Int)+1)),.bool (Mt.hasB ⟨x.set.toArray⟩ ((zK[pos]'hp).toNat:Int))])/\Below w.heap.size w w':=by
 have HS:Hid (s.length=44):=hs;have hcb:=zC h.cell;have hwb:wb<w.heap.size:=(lI.1 h.cell).1;have c1:w.cell? ⟨wb,1,none⟩=some (.string zK):=hcb.1 1;have hbb:=(zK[pos]'hp).toNat_lt;have KH:Hid (∀z:World,Calls Tryz.prog 142 #[.string ⟨x.set.toArray⟩,.int .u8 ((zK[pos]'hp).toNat:Int)] z λe w'=>e=.returned (.bool (Mt.hasB ⟨x.set.toArray⟩ ((zK[pos]'hp).toNat:Int)))/\w'=z):=λz=>(zO6 ⟨x.set.toArray⟩ _ z (by show x.set.toArray.size<=1000;simp;omega) (by omega) (by omega)).mono (λe w' hh=>⟨hh.1,hh.2.symm⟩)
 have zOJ:wb<w.heap.size+1:=by omega
 have zQt:wb<w.heap.size+1+1:=by omega
 have hdn:∀(W:World) (n:Nat) (a:Addr) (v:Value),(W.drewN n).setCell a v=(W.setCell a v).drewN n:=λ_ _ _ _=>rfl
 clear hs h hcb;unfold stV zAT;have hz:=dB;go_enter Tryz.func118,Tryz.ntmps118
 go_wp2_with fail
 go_quiet (fail)
 go_wp2_with fail
 go_quiet ((go_at_call 142;exact zHW (KH.out _)))
 go_wp2_with (first|(refine zP (by rfl) (.tmp 4) (by rfl) w.heap.size (by rfl) (by exact nC _ _ _ _) (by simp[HS.out]) ?_)|(refine zL (by rfl) (.tmp 6) (.tmp 121) (by rfl) (w.heap.size+1+1) _ (by rfl) (by rfl) (by exact zAp _ _ _ _) (by rfl) (by simp[HS.out]) (by simp only[qF];exact qD _) ?_;intro w2 r1 r2 r3 r4))
 have hB:Below w.heap.size w w2:=(below_drewN ((((Below.refl _ _).alloc (lG _) _).alloc (by simp) _).alloc (by simp;omega) _) _).trans (r4 _ (by omega));clear r2 r3 r4;refine bodyPost_ret (pU rfl (by rfl) r1 (by simp[HS.out])) rfl ⟨?_,hB⟩;simp only[qF];rfl
theorem tV(w:World)(A C:Obj):((w.alloc A).alloc C).heap[w.heap.size]?=some A:=by
 rw[kT _ _ _ (by simp),heap_alloc_new]
theorem mV(w:World)(A C:Obj):((w.alloc A).alloc C).heap[w.heap.size+1]?=some C:=by
 have:(w.alloc A).heap.size=w.heap.size+1:=by simp
 rw[<-this,heap_alloc_new]
theorem zLo{w:World}{wb gc gi ga gk cc ci ca ck:Nat}{c:List Mt.zTG}{zK:ByteArray}{zTM:List Bool}{ar:List Int}{zA:Int}{kn:List Bool}{zD qE:Int}{qI:Bool}
  (h:zU w wb gc gi ga gk cc ci ca ck c zK zTM ar zA kn zD qE qI) (s:List Int) (k:Int) (pc pos:Nat) (h0:s[0]?=some (pc:Int)) (h1:s[1]?=some (pos:Int)) (hs:s.length=44) (hpc:pc<=300) (dI:pos<=zK.size) (ht:zK.size<=60) (x0:0<=k) (x1:k<10)
  (a b:Int) (ha:s[2+(2*k).toNat]?=some a) (hb:s[2+(2*k+1).toNat]?=some b) (han:decide (a<0)=true) :
  Calls Tryz.prog 143 #[.pointer (some ⟨wb,0,none⟩),stV s,.int .i64 k] w λe w'=>e=.returned (.tuple #[stV (s),.bool false])/\Below w.heap.size w w':=by
 have HS:Hid (s.length=44):=hs;have hcb:=zC h.cell;have hwb:wb<w.heap.size:=(lI.1 h.cell).1;have c1:w.cell? ⟨wb,1,none⟩=some (.string zK):=hcb.1 1;have zOJ:wb<w.heap.size+1:=by omega
 have hdn:∀(W:World) (n:Nat) (a:Addr) (v:Value),(W.drewN n).setCell a v=(W.setCell a v).drewN n:=λ_ _ _ _=>rfl
 clear hs h hcb;unfold stV;have hz:=dB;go_enter Tryz.func143,Tryz.ntmps143
 go_wp2_with fail
 go_quiet (fail)
 go_wp2_with (first|(refine zP (by rfl) (.tmp 4) (by rfl) w.heap.size (by rfl) (by exact tV _ _ _) (by simp[HS.out]) ?_)|(refine zL (by rfl) (.tmp 6) (.tmp 38) (by rfl) (w.heap.size+1) _ (by rfl) (by rfl) (by exact mV _ _ _) (by rfl) (by simp[HS.out]) (by first | exact qD _|(simp only[qF];exact qD _)) ?_;intro w2 r1 r2 r3 r4))
 have hB:Below w.heap.size w w2:=(below_drewN (((Below.refl _ _).alloc (lG _) _).alloc (by simp) _) _).trans (r4 _ (by omega));clear r2 r3 r4;refine bodyPost_ret (pU rfl (by rfl) r1 (by simp[HS.out])) rfl ⟨?_,hB⟩;try simp only[qF]
 rfl
theorem zLp{w:World}{wb gc gi ga gk cc ci ca ck:Nat}{c:List Mt.zTG}{zK:ByteArray}{zTM:List Bool}{ar:List Int}{zA:Int}{kn:List Bool}{zD qE:Int}{qI:Bool}
  (h:zU w wb gc gi ga gk cc ci ca ck c zK zTM ar zA kn zD qE qI) (s:List Int) (k:Int) (pc pos:Nat) (h0:s[0]?=some (pc:Int)) (h1:s[1]?=some (pos:Int)) (hs:s.length=44) (hpc:pc<=300) (dI:pos<=zK.size) (ht:zK.size<=60) (x0:0<=k) (x1:k<10)
  (a b:Nat) (ha:s[2+(2*k).toNat]?=some (a:Int)) (hb:s[2+(2*k+1).toNat]?=some (b:Int)) (hab:a<=b) (hbT:b<=zK.size) (hlong:zK.size<pos+(b-a)) :
  Calls Tryz.prog 143 #[.pointer (some ⟨wb,0,none⟩),stV s,.int .i64 k] w λe w'=>e=.returned (.tuple #[stV (s),.bool false])/\Below w.heap.size w w':=by
 have HS:Hid (s.length=44):=hs;have hcb:=zC h.cell;have hwb:wb<w.heap.size:=(lI.1 h.cell).1;have c1:w.cell? ⟨wb,1,none⟩=some (.string zK):=hcb.1 1;have zOJ:wb<w.heap.size+1:=by omega
 have hdn:∀(W:World) (n:Nat) (a:Addr) (v:Value),(W.drewN n).setCell a v=(W.setCell a v).drewN n:=λ_ _ _ _=>rfl
 clear hs h hcb;unfold stV;have hz:=dB;go_enter Tryz.func143,Tryz.ntmps143
 have q0:decide ((a:Int)<0)=false:=by simp
 go_wp2_with fail
 go_quiet (fail)
 go_wp2_with (first|(refine zP (by rfl) (.tmp 4) (by rfl) w.heap.size (by rfl) (by exact tV _ _ _) (by simp[HS.out]) ?_)|(refine zL (by rfl) (.tmp 6) (.tmp 38) (by rfl) (w.heap.size+1) _ (by rfl) (by rfl) (by exact mV _ _ _) (by rfl) (by simp[HS.out]) (by first | exact qD _|(simp only[qF];exact qD _)) ?_;intro w2 r1 r2 r3 r4))
 have hB:Below w.heap.size w w2:=(below_drewN (((Below.refl _ _).alloc (lG _) _).alloc (by simp) _) _).trans (r4 _ (by omega));clear r2 r3 r4;refine bodyPost_ret (pU rfl (by rfl) r1 (by simp[HS.out])) rfl ⟨?_,hB⟩;try simp only[qF]
 rfl
theorem zLq{w:World}{wb gc gi ga gk cc ci ca ck:Nat}{c:List Mt.zTG}{zK:ByteArray}{zTM:List Bool}{ar:List Int}{zA:Int}{kn:List Bool}{zD qE:Int}{qI:Bool}
  (h:zU w wb gc gi ga gk cc ci ca ck c zK zTM ar zA kn zD qE qI) (s:List Int) (k:Int) (pc pos:Nat) (h0:s[0]?=some (pc:Int)) (h1:s[1]?=some (pos:Int)) (hs:s.length=44) (hpc:pc<=300) (dI:pos<=zK.size) (ht:zK.size<=60) (x0:0<=k) (x1:k<10)
  (a b:Nat) (ha:s[2+(2*k).toNat]?=some (a:Int)) (hb:s[2+(2*k+1).toNat]?=some (b:Int)) (hab:a<=b) (hbT:b<=zK.size) (hfit:pos+(b-a)<=zK.size) :
  Calls Tryz.prog 143 #[.pointer (some ⟨wb,0,none⟩),stV s,.int .i64 k] w λe w'=>e=.returned (.tuple #[stV ((s.set 1 ((pos:Int)+b-a)).set 0 ((pc:Int)+1)),.bool ((zK.extract a b).toList==(zK.extract pos (pos+b-a)).toList)])/\Below w.heap.size w w':=by
 have HS:Hid (s.length=44):=hs;have hcb:=zC h.cell;have hwb:wb<w.heap.size:=(lI.1 h.cell).1;have c1:w.cell? ⟨wb,1,none⟩=some (.string zK):=hcb.1 1;have zOJ:wb<w.heap.size+1:=by omega
 have hdn:∀(W:World) (n:Nat) (a:Addr) (v:Value),(W.drewN n).setCell a v=(W.setCell a v).drewN n:=λ_ _ _ _=>rfl
 clear hs h hcb;unfold stV;have hz:=dB;go_enter Tryz.func143,Tryz.ntmps143
 have q0:decide ((a:Int)<0)=false:=by simp
 go_wp2_with fail
 go_quiet (fail)
 go_wp2_with fail
 go_quiet (fail)
 go_wp2_with (first|(refine zP (by rfl) (.tmp 4) (by rfl) w.heap.size (by rfl) (by exact tV _ _ _) (by simp[HS.out]) ?_)|(refine zL (by rfl) (.tmp 6) (.tmp 71) (by rfl) (w.heap.size+1) _ (by rfl) (by rfl) (by exact mV _ _ _) (by rfl) (by simp[HS.out]) (by first | exact qD _|(simp only[qF];exact qD _)) ?_;intro w2 r1 r2 r3 r4))
 have hB:Below w.heap.size w w2:=(below_drewN (((Below.refl _ _).alloc (lG _) _).alloc (by simp) _) _).trans (r4 _ (by omega));clear r2 r3 r4;refine bodyPost_ret (pU rfl (by rfl) r1 (by simp[HS.out])) rfl ⟨?_,hB⟩;try simp only[qF]
 rfl
theorem zNx{w:World}{wb gc gi ga gk cc ci ca ck:Nat}{c:List Mt.zTG}{zK:ByteArray}{zTM:List Bool}{ar:List Int}{zA:Int}{kn:List Bool}{zD qE:Int}{qI:Bool}
  (h:zU w wb gc gi ga gk cc ci ca ck c zK zTM ar zA kn zD qE qI) (s s':List Int) (ok:Bool) (x:Mt.zTG) (pc pos:Nat) (h0:s[0]?=some (pc:Int)) (h1:s[1]?=some (pos:Int)) (hs:s.length=44) (hs':s'.length=44) (hpc:pc<=300) (dI:pos<=zK.size) (ht:zK.size<=60)
  (KB:Hid (∀z:World,zU z wb gc gi ga gk cc ci ca ck c zK zTM ar zA kn zD qE qI->Calls Tryz.prog 143 #[.pointer (some ⟨wb,0,none⟩),stV s,.int .i64 x.x] z λe w'=>e=.returned (.tuple #[stV s',.bool ok])/\Below z.heap.size z w'))
  (o1:(x.op==1)=false) (o3:(x.op==3)=false) (o4:(x.op==4)=false) (o5:(x.op==5)=false) (o6:(x.op==6)=false) (o7:(x.op==7)=false) (o8:(x.op==8)=true) :
  Calls Tryz.prog 118 #[.pointer (some ⟨wb,0,none⟩),stV s,zAT x] w λe w'=>e=.returned (.tuple #[stV s',.bool ok])/\Below w.heap.size w w':=by
 have HS:Hid (s.length=44):=hs;have HS':Hid (s'.length=44):=hs';have HW:Hid (zU w wb gc gi ga gk cc ci ca ck c zK zTM ar zA kn zD qE qI):=h;clear hs h hs';unfold stV zAT;have hz:=dB;go_enter Tryz.func118,Tryz.ntmps118
 go_wp2_with (first|(refine zP (by rfl) (.tmp 4) (by rfl) w.heap.size (by rfl) (by exact nC _ _ _ _) (by simp[HS.out]) ?_) | fail)
 refine(KB.out _ (HW.out.below (((((Below.refl _ _).alloc (lG _) _).alloc (by simp) _).alloc (by simp;omega) _)))).mono ?_;rintro e w1 ⟨rfl,zTH⟩;have hA:w1.heap[w.heap.size+1+1]?=some zBn:=by rw[zTH.block _ (by simp)];exact zAp _ _ _ _
 have hB1:Below w.heap.size w w1:=(((((Below.refl _ _).alloc (lG _) _).alloc (by simp) _).alloc (by simp;omega) _)).trans (zTH.mono (by simp;omega));have HA:Hid (w1.heap[w.heap.size+1+1]?=some zBn):=hA;clear hA zTH;go_wp2_with (refine zL (by rfl) (.tmp 6) (.tmp 100) (by rfl) (w.heap.size+1+1) (s'.map (Value.int .i64)).toArray (by rfl) (by rfl) (by exact HA.out) (by rfl) (by simp[HS'.out]) (qD _) ?_;intro w2 r1 r2 r3 r4)
 have hB:Below w.heap.size w w2:=hB1.trans (r4 _ (by omega));clear r2 r3 r4;refine bodyPost_ret (pU rfl (by rfl) r1 (by simp[HS'.out])) rfl ⟨rfl,hB⟩
def zMY(k:Nat):Array Value:=(List.replicate k (Value.int .i64 (-1))++List.replicate (20-k) (Value.int .i64 0)).toArray
theorem Tryz.size55:(Tryz.prog.info? 55).map (·.size)=some 20:=by kernel_rfl
theorem zEm{ops:Array Oper}{rest:List Oper}{op:Oper}{a:Act}{w:World}{Q:Exit->Act->World->Prop}(hgd:op.guard=none)(x:Operand)(ho:op.op=.load 55 x)
  (b:Nat) (hx:a.eval x=.pointer (some ⟨b,0,none⟩)) {t:TypeId} {A:Array Value} (hA:w.heap[b]?=some (.cells A t (0,0))) (hs:A.size=20)
  (h:wpList Tryz.prog ops Q rest (a.put op.dst (.agg A)) w):wpList Tryz.prog ops Q (op::rest) a w :=
 wpList_load_mid hgd _ x ho b 0 hx A.toList _ (yI hA) Tryz.underlying55 rfl (by rw[Tryz.size55];simp[hs]) h
theorem zDv{ops:Array Oper}{rest:List Oper}{op:Oper}{a:Act}{w:World}{Q:Exit->Act->World->Prop}(hgd:op.guard=none)(x y:Operand)(ho:op.op=.store 55 x y)
  (b:Nat) (cs:Array Value) (hx:a.eval x=.pointer (some ⟨b,0,none⟩)) (hy:a.eval y=.agg cs) {t:TypeId} {B:Array Value} (hB:w.heap[b]?=some (.cells B t (0,0))) (hs:B.size=20) (hc:cs.size=20) (h1:cs.all (·.oneCell')=true)
  (h:∀w2:World,w2.heap[b]?=some (.cells cs t (0,0))->(∀k,k≠b->w2.heap[k]?=w.heap[k]?)->w2.heap.size=w.heap.size->(∀L,L<=b->Below L w w2)->wpList Tryz.prog ops Q rest (a.put op.dst undef) w2):wpList Tryz.prog ops Q (op::rest) a w:=by
 have hb:=zC hB;refine wpList_store_mid hgd _ x y ho b 0 cs hx hy (qW hb.1 hb.2 _ (by omega)) (by rw[Tryz.size55,hc]) h1 ?_;exact h _ (yT hB cs (by omega)) (λk hk=>qB b _ 0 w k hk) (below_setCells b _ 0 w 0 (Nat.zero_le _)).2 (λL hL=>(below_setCells b _ 0 w L hL).1)
theorem zO9:(zMY 20).all (·.oneCell')=true:=by
 unfold zMY;rw[List.all_toArray];simp[Value.oneCell']
theorem zCB{fn:Func}{p:Tmp}{ty:TypeId}(h:fn.results=#[.cell p ty])(tmps:Array Value)(P:Program)(w:World) :
  (results fn tmps).run P w=((asAddr (tmps.getD p undef)).run P w).andThen λa w₁=>((loadVar ty a).run P w₁).andThen λv w₂=>.ok v w₂:=by
 simp only[results,h];simp[Sem.run_bind,Result.andThen];cases Sem.run P (asAddr (tmps[p]?.getD undef)) w with
 | ok a w1=>dsimp only;cases Sem.run P (loadVar ty a) w1 <;> rfl
 | halt h w1=>rfl
theorem zQu{fn:Func}{p:Tmp}(hr:fn.results=#[.cell p 55]){tmps:Array Value}{w:World}{b:Nat}{t:TypeId}{A:Array Value}(hp:tmps.getD p undef=.pointer (some ⟨b,0,none⟩))(hA:w.heap[b]?=some (.cells A t (0,0)))(hs:A.size=20) :
  (results fn tmps).run Tryz.prog w=.ok (.agg A) w:=by
 rw[zCB hr,hp];have:=run_loadVar_mid (P:=Tryz.prog) w b 0 55 A.toList _ (yI hA) Tryz.underlying55 rfl (by rw[Tryz.size55];simp[hs]);simp[asAddr,Result.andThen,this]
theorem zLr(k:Nat)(h:k<20):(zMY k).setIfInBounds k (.int .i64 (-1))=zMY (k+1):=by
 unfold zMY;have e:20-k=(20-(k+1))+1:=by omega
 rw[lC,e,List.replicate_succ,List.set_append_right _ _ (by simp)];simp[List.replicate_succ',List.append_assoc]
theorem zDw(w:World) :
  Calls Tryz.prog 81 #[] w λe w'=>e=.returned (.agg ((List.replicate 20 (-1:Int)).map (Value.int .i64)).toArray)/\Below w.heap.size w w':=by
 go_enter Tryz.func81,Tryz.ntmps81
 go_wp2_with fail
 go_loopw [2] (λi wr=>∃k:Nat,k<=20/\i=.int .i64 k/\wr.heap[w.heap.size+1]?=some (.cells (zMY k) 55 (0,0))/\wr.heap[w.heap.size]?=some (.cells (zMY 0) 55 (0,0))/\w.heap.size+1<wr.heap.size/\Below w.heap.size w wr) (λi _=>20-(intOf i).toNat)
 case atStart=>exact⟨0,by omega,rfl,mV _ _ _,tV _ _ _,by simp,by go_grown⟩
 case round =>
  obtain⟨k,hk,rfl,hblk,zRm,zTI,hB⟩:=hrel;have HB:Hid (wr.heap[w.heap.size+1]?=some (.cells (zMY k) 55 (0,0))):=hblk;have HB0:Hid (wr.heap[w.heap.size]?=some (.cells (zMY 0) 55 (0,0))):=zRm;have HBB:Hid (Below w.heap.size w wr):=hB;by_cases hl:k<20
  ·have zz:wr.cell? ⟨w.heap.size+1,k,none⟩=some (.int .i64 0):=by
    rw[(zC hblk).1];unfold zMY;rw[List.getElem?_toArray,List.getElem?_append_right (by simp)];simp only[List.length_replicate,Nat.sub_self];rw[List.getElem?_replicate,if_pos (by omega)]
   have z2:=(zC hblk).2 k;clear hblk zRm hB;go_wp2_with fail
   go_roundw
   case rel =>
    refine⟨k+1,by omega,by go_num,?_,?_,by simpa[World.setCell]using zTI,HBB.out.setCell (p:=⟨w.heap.size+1,k,none⟩) (by simp) _⟩
    ·rw[<-zLr k hl];exact Go.heap_setCell_same wr _ k _ _ _ HB.out
    ·rw[Below.heap_setCell _ _ _ _ (by show w.heap.size≠w.heap.size+1;omega)];exact HB0.out
   case measure=>simp[intOf];omega
  ·have e:k=20:=by omega
   subst e;clear hblk zRm hB;go_wp2_with (first|(refine zEm (by rfl) (.tmp 1) (by rfl) (w.heap.size+1) (by rfl) HB.out (by rfl) ?_)|(refine zDv (by rfl) (.tmp 0) (.tmp 9) (by rfl) w.heap.size _ (by rfl) (by rfl) HB0.out (by rfl) (by rfl) zO9 ?_;intro w2 r1 r2 r3 r4))
   refine bodyPost_ret (zQu rfl (by rfl) r1 (by rfl)) rfl ⟨rfl,?_⟩;exact HBB.out.trans (r4 _ (lG _))
