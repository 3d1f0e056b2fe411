import Derived.Test.YtebpgfodelggoabGreatKC40
import Derived.Test.YtebpgfodelggoabGreatKC42
set_option linter.unusedVariables false
set_option linter.unusedSimpArgs false
set_option maxRecDepth 100000
set_option maxHeartbeats 8000000
namespace Go.Proofs.YtebpgfodelggoabGreat
open Go.RowKit
theorem zA5{w wr:World}{g cap:Nat}{c:List Mt.zTG}(h:zF w 0 (.slice (some ⟨g,0,none⟩) c.length cap) c)(hb:Below w.heap.size w wr)(k:Nat)(hk:k<c.length):wr.rangeAt g (k*4) (kM (c.getD k Mt.jY)):=λj u hj=>by
 have h':=h;unfold zF at h';by_cases h4:j<4
 ·rw[hb.cell (p:=⟨g,k*4+j,none⟩) (World.ownsRow.lt h g rfl).2,World.ownsRow.cellAt h' (k*4+j) (by omega),bX c k j hk h4];exact hj
 ·rw[List.getElem?_eq_none (by rw[zFN];omega)]at hj;simp at hj
theorem zF1{w wr w3:World}{I:Mt.zTG}(hbr:Below w.heap.size w wr)(r1:w3.heap[wr.heap.size]?=some (.cells (yR I) 48 (0,0)))(r4:∀L,L<=wr.heap.size->Below L (wr.alloc (.cells (yR Mt.jY) 48)) w3) :
  w3.cell? ⟨wr.heap.size,0,none⟩=some (.int .i64 I.op)/\w3.cell? ⟨wr.heap.size,1,none⟩=some (.int .i64 I.x)/\w3.cell? ⟨wr.heap.size,2,none⟩=some (.int .i64 I.y)/\Below w.heap.size w w3/\Below wr.heap.size wr w3 :=
 ⟨(zC r1).1 0,(zC r1).1 1,(zC r1).1 2,(hbr.alloc hbr.size _).trans (r4 _ hbr.size),((Below.refl _ _).alloc (lG _) _).trans (r4 _ (lG _))⟩
theorem zIF(c:List Mt.zTG)(hl:c.length<=300)(g cap:Nat)(w:World)(h:zF w 0 (.slice (some ⟨g,0,none⟩) c.length cap) c) :
  Calls Tryz.prog 72 #[.slice (some ⟨g,0,none⟩) c.length cap] w λe w'=>e=.returned (.bool (Mt.nP c))/\Below w.heap.size w w':=by
 have HI:Hid (zF w 0 (.slice (some ⟨g,0,none⟩) c.length cap) c):=h;clear h;go_enter Tryz.func72,Tryz.ntmps72
 go_wp2_with fail
 go_loopw [7] (λi wr=>∃k:Nat,k<=c.length/\i=.int .i64 k/\(c.take k).any (λi=>decide (i.op=8))=false/\Below w.heap.size w wr) (λi _=>c.length-(intOf i).toNat)
 case atStart=>exact⟨0,Nat.zero_le _,rfl,rfl,Below.refl _ _⟩
 case round =>
  obtain⟨k,hk,rfl,hr,hbr⟩:=hrel;have HR:Hid ((c.take k).any (λi=>decide (i.op=8))=false):=hr;have HBR:Hid (Below w.heap.size w wr):=hbr;clear hr;by_cases zTI:k<c.length
  ·have hR:=zA5 HI.out hbr k zTI;have HN:Hid ((c.take (k+1)).any (λi=>decide (i.op=8))=((c.take k).any (λi=>decide (i.op=8))||decide ((c.getD k Mt.jY).op=8))):=Mt.zAQ c _ k zTI
   have HH:Hid ((c.getD k Mt.jY).op=8->Mt.nP c=true):=λh8=>by
    have:=Mt.wW c (λi=>decide (i.op=8)) k c.length zTI (lG _) (by simpa using h8)
    rwa [List.take_length]at this
   have hk':(k:Int)<(c.length:Int):=by omega
   clear hbr;generalize c.getD k Mt.jY=I at *;go_upto_region 4 with (first|(refine wpList_load_mid (by rfl) 48 (.tmp 9) (by rfl) g (k*4) (by rfl) (kM I) _ hR Tryz.underlying48 rfl (by rw[Tryz.sizeIn];rfl) ?_)|(refine zM 48 4 Tryz.sizeIn (by rfl) (.tmp 4) (.tmp 10) (by rfl) wr.heap.size (yR I) (by rfl) (by rfl) (by exact jR _ _) (by rfl) (by rfl) (tN I) ?_;intro w3 r1 r2 r3 r4))
   obtain⟨x0,x1,x2,B3,_⟩:=zF1 HBR.out r1 r4;have HB3:Hid (Below w.heap.size w w3):=B3;clear r1 r2 r3 r4 B3 hR x1 x2;cases h8:(I.op==8)
   ·have HNN:Hid ((c.take (k+1)).any (λi=>decide (i.op=8))=false):=by
     show _=_;rw[HN.out,HR.out,Bool.false_or];simpa using h8
    go_wp2_with fail
    go_roundw
    case rel=>exact⟨k+1,by omega,by go_num,HNN.out,HB3.out⟩
    case measure=>simp[intOf];omega
   ·have HE:Hid (Mt.nP c=true):=HH.out (by simpa using h8);go_wp2_with fail
    go_ret;exact⟨jC (by rw[HE.out]),HB3.out⟩
  ·have HE:Hid (Mt.nP c=false):=by
    have:=HR.out
    rwa [show k=c.length by omega,List.take_length]at this
   clear hbr;go_wp2_with fail
   go_ret;exact⟨jC (by rw[HE.out]),HBR.out⟩
theorem and_one(x:Nat)(h:x<9223372036854775808):bits .and .i64 (x:Int) 1=((x % 2:Nat):Int):=by
 unfold bits;dsimp only;have e1:BitVec.ofInt IntKind.i64.bits (x:Int)=BitVec.ofNat 64 x:=BitVec.ofInt_natCast 64 x;have e2:BitVec.ofInt IntKind.i64.bits 1=BitVec.ofNat 64 1:=rfl;rw[e1,e2]
 have e3:(BitVec.ofNat 64 x &&& BitVec.ofNat 64 1).toNat=x % 2:=by
  rw[BitVec.toNat_and,BitVec.toNat_ofNat,BitVec.toNat_ofNat,Nat.mod_eq_of_lt (show x<2 ^ 64 by omega),Nat.mod_eq_of_lt (show 1<2 ^ 64 by omega),Nat.and_one_is_mod]
 have e4:IntKind.i64.wrap (((BitVec.ofNat 64 x &&& BitVec.ofNat 64 1).toNat:Nat):Int)=((x % 2:Nat):Int):=by
  rw[e3];have hm:x % 2=0\/x % 2=1:=by omega
  rcases hm with hm | hm <;> rw[hm] <;> rfl
 exact e4
theorem zPX(zI:Int)(hm0:0<=zI)(hm1:zI<=4294967295)(k:Nat):(bits .and .i64 (zI/2 ^ k) 1==1)=Mt.zAr zI k:=by
 obtain⟨M,rfl⟩:∃M:Nat,zI=(M:Int):=⟨zI.toNat,by omega⟩
 have e:(M:Int)/2 ^ k=((M/2 ^ k:Nat):Int):=by push_cast;rfl
 have hle:M/2 ^ k<=M:=Nat.div_le_self _ _;unfold Mt.zAr;rw[e,and_one _ (by omega)];congr 1
theorem zBj(c:List Mt.zTG)(zI:Int)(hm0:0<=zI)(hm1:zI<=4294967295)(hl:c.length<=300)(g cap:Nat)(w:World) :
  Calls Tryz.prog 109 #[.slice (some ⟨g,0,none⟩) c.length cap,.int .i64 zI] w λe w'=>e=.returned (.slice (some ⟨w.heap.size,0,none⟩) c.length c.length)/\qQ w' w.heap.size (.slice (some ⟨w.heap.size,0,none⟩) c.length c.length) ((List.range c.length).map λp=>Mt.zAr zI (p % 32))/\Below w.heap.size w w':=by
 obtain⟨i0,hi,hz0,hz1,hz2⟩:=info_parts Tryz.infoB;go_enter Tryz.func109,Tryz.ntmps109
 go_wp2_with (first|(at_make;refine wpList_make_full _ rfl (.tmp 8) (.tmp 8) 81 rfl w.heap.size 4 i0 (.bool false) 1 Tryz.underlying81 hi hz0 hz1 .i64 .i64 _ _ c.length rfl rfl rfl rfl (by rw[hz2];omega) (by unfold maxLen;omega) (lG _) ?_;intro w1 hmk hgr))
 have hB1:Below w.heap.size w w1:=(Below.refl _ _).grown hgr (lG _) (λq hq=>by simp at hq);have HM:Hid (qQ w1 w.heap.size (.slice (some ⟨w.heap.size,0,none⟩) c.length c.length) (fill (λp=>Mt.zAr zI (p % 32)) false 0 c.length)):=by rw[zB1];exact qQ.made hmk
 clear hmk hgr
 go_loopw [12] (λi wr=>∃k:Nat,k<=c.length/\i=.int .i64 k/\qQ wr w.heap.size (.slice (some ⟨w.heap.size,0,none⟩) c.length c.length) (fill (λp=>Mt.zAr zI (p % 32)) false k c.length)/\Below w.heap.size w wr) (λi _=>c.length-(intOf i).toNat)
 case atStart=>exact⟨0,Nat.zero_le _,rfl,HM.out,hB1⟩
 case round =>
  obtain⟨k,hk,rfl,jS,hbr⟩:=hrel;by_cases zTI:k<c.length
  ·obtain⟨x1,x2⟩:=jS.at k (by rw[fK];exact zTI) (by rw[fK]);have hk':(k:Int)<(c.length:Int):=by omega
   have O4:=jS.set (by rw[fK]) k (Mt.zAr zI (k % 32));rw[zDb (λp=>Mt.zAr zI (p % 32)) false k c.length]at O4;have HO4:Hid (qQ (wr.setCell ⟨w.heap.size,k,none⟩ (.bool (Mt.zAr zI (k % 32)))) w.heap.size (.slice (some ⟨w.heap.size,0,none⟩) c.length c.length) (fill (λp=>Mt.zAr zI (p % 32)) false (k+1) c.length)/\Below w.heap.size w (wr.setCell ⟨w.heap.size,k,none⟩ (.bool (Mt.zAr zI (k % 32))))):=⟨O4,hbr.setCell (p:=⟨w.heap.size,k,none⟩) (lG _) _⟩
   have HBA:Hid ((bits .and .i64 (zI/2 ^ (k % 32)) 1==1)=Mt.zAr zI (k % 32)):=zPX zI hm0 hm1 _;clear jS hbr O4;generalize (fill (λp=>Mt.zAr zI (p % 32)) false k c.length).getD k false=zz at *;go_wp2_with fail
   go_roundw
   case rel=>rw[HBA.out];exact⟨k+1,by omega,by go_num,HO4.out⟩
   case measure=>simp[intOf];omega
  ·have hk2:k=c.length:=by omega
   subst hk2;rw[zDa]at jS;have HBR:Hid (Below w.heap.size w wr):=hbr;have HOW:Hid (qQ wr w.heap.size (.slice (some ⟨w.heap.size,0,none⟩) c.length c.length) ((List.range c.length).map λp=>Mt.zAr zI (p % 32))):=jS;clear hbr jS;go_wp2_with fail
   go_ret;exact⟨rfl,HOW.out,HBR.out⟩
def yZ(c:List Mt.zTG)(k:Nat):List Bool:=(List.range c.length).map λp:Nat=>(c.take k).any (Mt.xG (p:Int))
theorem zBy(c:List Mt.zTG)(k:Nat):(yZ c k).length=c.length:=by simp[yZ]
theorem zHv(c:List Mt.zTG)(k:Nat)(h:k<c.length):((c.getD k Mt.jY).op≠5->yZ c (k+1)=yZ c k)/\(∀X:Nat,(c.getD k Mt.jY).op=5->(c.getD k Mt.jY).x=X->yZ c (k+1)=(yZ c k).set X true):=by
 refine⟨λh5=>?_,λX h5 hX=>?_⟩
 ·unfold yZ;apply List.map_congr_left;intro p hp;rw[Mt.zAQ c _ k h];have:Mt.xG (p:Int) (c.getD k Mt.jY)=false:=by unfold Mt.xG;simp;intro e;exact absurd e h5
  rw[this,Bool.or_false]
 ·unfold yZ;apply List.ext_getElem
  ·simp
  ·intro i h1 h2;rw[List.getElem_set];simp only[List.getElem_map,List.getElem_range];rw[Mt.zAQ c _ k h];by_cases e:X=i
   ·rw[if_pos e];have:Mt.xG (i:Int) (c.getD k Mt.jY)=true:=by unfold Mt.xG;rw[decide_eq_true_eq];exact⟨h5,by rw[hX,e]⟩
    rw[this,Bool.or_true]
   ·rw[if_neg e];have:Mt.xG (i:Int) (c.getD k Mt.jY)=false:=by unfold Mt.xG;rw[lJ];intro hh;rw[hX]at hh;omega
    rw[this,Bool.or_false]
theorem zF2(c:List Mt.zTG)(hok:Mt.codeOk c)(hl:c.length<=300)(g cap:Nat)(w:World)(h:zF w 0 (.slice (some ⟨g,0,none⟩) c.length cap) c) :
  Calls Tryz.prog 110 #[.slice (some ⟨g,0,none⟩) c.length cap] w λe w'=>e=.returned (.slice (some ⟨w.heap.size,0,none⟩) c.length c.length)/\qQ w' w.heap.size (.slice (some ⟨w.heap.size,0,none⟩) c.length c.length) ((List.range c.length).map λp:Nat=>c.any (Mt.xG (p:Int)))/\Below w.heap.size w w':=by
 obtain⟨i0,hi,hz0,hz1,hz2⟩:=info_parts Tryz.infoB;have HI:Hid (zF w 0 (.slice (some ⟨g,0,none⟩) c.length cap) c):=h;clear h;go_enter Tryz.func110,Tryz.ntmps110
 go_wp2_with (first|(at_make;refine wpList_make_full _ rfl (.tmp 7) (.tmp 7) 81 rfl w.heap.size 4 i0 (.bool false) 1 Tryz.underlying81 hi hz0 hz1 .i64 .i64 _ _ c.length rfl rfl rfl rfl (by rw[hz2];omega) (by unfold maxLen;omega) (lG _) ?_;intro w1 hmk hgr))
 have hB1:Below w.heap.size w w1:=(Below.refl _ _).grown hgr (lG _) (λq hq=>by simp at hq)
 have HM:Hid (qQ w1 w.heap.size (.slice (some ⟨w.heap.size,0,none⟩) c.length c.length) (yZ c 0)):=by
  have:yZ c 0=List.replicate c.length false:=by
   unfold yZ;apply List.ext_getElem
   ·simp
   ·intro i h1 h2;simp
  rw[this];exact qQ.made hmk
 clear hmk hgr
 go_loopw [11] (λi wr=>∃k:Nat,k<=c.length/\i=.int .i64 k/\qQ wr w.heap.size (.slice (some ⟨w.heap.size,0,none⟩) c.length c.length) (yZ c k)/\Below w.heap.size w wr) (λi _=>c.length-(intOf i).toNat)
 case atStart=>exact⟨0,Nat.zero_le _,rfl,HM.out,hB1⟩
 case round =>
  obtain⟨k,hk,rfl,jS,hbr⟩:=hrel;by_cases zTI:k<c.length
  ·have hR:=zA5 HI.out hbr k zTI;have HN:=zHv c k zTI;have zQ2:=hok k zTI;have hk':(k:Int)<(c.length:Int):=by omega
   have HBR:Hid (Below w.heap.size w wr):=hbr;have HOW:Hid (qQ wr w.heap.size (.slice (some ⟨w.heap.size,0,none⟩) c.length c.length) (yZ c k)):=jS;have hwl:w.heap.size<wr.heap.size:=(World.ownsRow.lt jS w.heap.size rfl).2;clear hbr jS;generalize c.getD k Mt.jY=I at *;have HNN:Hid ((I.op≠5->yZ c (k+1)=yZ c k)/\(∀X:Nat,I.op=5->I.x=X->yZ c (k+1)=(yZ c k).set X true)):=HN;have H5:Hid (I.op=5->0<=I.x/\I.x<c.length):=λe=>by have:=zQ2.2.2.2.1 e;omega
   clear HN zQ2;go_upto_region 5 with (first|(refine wpList_load_mid (by rfl) 48 (.tmp 13) (by rfl) g (k*4) (by rfl) (kM I) _ hR Tryz.underlying48 rfl (by rw[Tryz.sizeIn];rfl) ?_)|(refine zM 48 4 Tryz.sizeIn (by rfl) (.tmp 5) (.tmp 14) (by rfl) wr.heap.size (yR I) (by rfl) (by rfl) (by exact jR _ _) (by rfl) (by rfl) (tN I) ?_;intro w3 r1 r2 r3 r4))
   obtain⟨x0,x1,x2,B3,B4⟩:=zF1 HBR.out r1 r4;have HB3:Hid (Below w.heap.size w w3):=B3;have HO3:Hid (qQ w3 w.heap.size (.slice (some ⟨w.heap.size,0,none⟩) c.length c.length) (yZ c k)):=HOW.out.below B4;clear r1 r2 r3 r4 B3 B4 hR x2;cases h5:(I.op==5)
   ·have HQ:Hid (yZ c (k+1)=yZ c k):=HNN.out.1 (by simpa using h5);go_wp2_with fail
    go_roundw
    case rel=>exact⟨k+1,by omega,by go_num,by rw[HQ.out];exact HO3.out,HB3.out⟩
    case measure=>simp[intOf];omega
   ·have e5:I.op=5:=by simpa using h5
    have hx5:=H5.out e5;obtain⟨X,hX⟩:∃X:Nat,I.x=(X:Int):=⟨I.x.toNat,by omega⟩
    have HQ:Hid (yZ c (k+1)=(yZ c k).set X true):=HNN.out.2 X e5 hX;obtain⟨z1,z2⟩:=HO3.out.at X (by rw[zBy];omega) (by rw[zBy]);have HO4:Hid (qQ (w3.setCell ⟨w.heap.size,X,none⟩ (.bool true)) w.heap.size (.slice (some ⟨w.heap.size,0,none⟩) c.length c.length) ((yZ c k).set X true)/\Below w.heap.size w (w3.setCell ⟨w.heap.size,X,none⟩ (.bool true))):=⟨HO3.out.set (by rw[zBy]) X true,HB3.out.setCell (p:=⟨w.heap.size,X,none⟩) (lG _) _⟩
    rw[hX]at x1;have hXl:(X:Int)<(c.length:Int):=by omega
    clear hx5 hX e5;generalize (yZ c k).getD X false=zz at *;go_wp2_with fail
    go_roundw
    case rel=>exact⟨k+1,by omega,by go_num,by rw[HQ.out];exact HO4.out.1,HO4.out.2⟩
    case measure=>simp[intOf];omega
  ·have hk2:k=c.length:=by omega
   subst hk2;have e:yZ c c.length=(List.range c.length).map λp:Nat=>c.any (Mt.xG (p:Int)):=by unfold yZ;rw[List.take_length]
   rw[e]at jS;have HBR:Hid (Below w.heap.size w wr):=hbr;have HOW:Hid (qQ wr w.heap.size (.slice (some ⟨w.heap.size,0,none⟩) c.length c.length) ((List.range c.length).map λp:Nat=>c.any (Mt.xG (p:Int)))):=jS;clear hbr jS;go_wp2_with fail
   go_ret;exact⟨rfl,HOW.out,HBR.out⟩
def kV(c:List Mt.zTG)(k:Nat):List Int:=(List.range c.length).map λp:Nat=>(Mt.kH c (p:Int) k:Int)
theorem vB(c:List Mt.zTG)(k:Nat):(kV c k).length=c.length:=by simp[kV]
theorem zBz(c:List Mt.zTG)(k p:Nat)(h:p<c.length):(kV c k).getD p 0=(Mt.kH c (p:Int) k:Int):=by
 unfold kV;rw[lH,List.getElem?_map,List.getElem?_range h];rfl
theorem zAm(c:List Mt.zTG)(k:Nat)(hk:k<c.length)(S:Nat->Bool)(hS:∀p:Nat,p<c.length->Mt.leads c k (p:Int)=S p):kV c (k+1)=(List.range c.length).map λp:Nat=>(Mt.kH c (p:Int) k:Int)+if S p then 1 else 0:=by
 unfold kV;apply List.map_congr_left;intro p hp;rw[List.mem_range]at hp;rw[Mt.zCz,hS p hp];split <;> simp
theorem zEe(f:Nat->Int)(n X:Nat)(v:Int):((List.range n).map f).set X v=(List.range n).map λp=>if p=X then v else f p:=by
 apply List.ext_getElem
 ·simp
 ·intro i h1 h2;rw[List.getElem_set];simp only[List.getElem_map,List.getElem_range];by_cases e:X=i
  ·rw[if_pos e,if_pos e.symm]
  ·rw[if_neg e,if_neg (λh=>e h.symm)]
theorem zOx(c:List Mt.zTG)(k:Nat)(hk:k<c.length)(X:Nat)(hX:∀p:Nat,p<c.length->Mt.leads c k (p:Int)=decide (p=X)):kV c (k+1)=(kV c k).set X ((Mt.kH c (X:Int) k:Int)+1):=by
 rw[zAm c k hk (λp=>decide (p=X)) hX];unfold kV;rw[zEe];apply List.map_congr_left;intro p _;by_cases e:p=X
 ·subst e;simp
 ·simp[e]
theorem zOy(c:List Mt.zTG)(k:Nat)(hk:k<c.length)(X Y:Nat)(hxy:Y≠X)(hX:∀p:Nat,p<c.length->Mt.leads c k (p:Int)=(decide (p=X)||decide (p=Y))):kV c (k+1)=((kV c k).set X ((Mt.kH c (X:Int) k:Int)+1)).set Y ((Mt.kH c (Y:Int) k:Int)+1):=by
 rw[zAm c k hk _ hX];unfold kV;rw[zEe,zEe];apply List.map_congr_left;intro p _;by_cases e:p=X
 ·subst e;have:¬p=Y:=λh=>hxy h.symm
  simp[this]
 ·by_cases e2:p=Y
  ·subst e2;simp
  ·simp[e,e2]
theorem zHw(c:List Mt.zTG)(k:Nat)(hk:k<c.length)(hX:∀p:Nat,p<c.length->Mt.leads c k (p:Int)=false):kV c (k+1)=kV c k:=by
 rw[zAm c k hk (λ_=>false) hX];unfold kV;apply List.map_congr_left;intro p _;simp
theorem zIG(c:List Mt.zTG)(hok:Mt.codeOk c)(hl:c.length<=300)(g cap:Nat)(w:World)(h:zF w 0 (.slice (some ⟨g,0,none⟩) c.length cap) c) :
  Calls Tryz.prog 137 #[.slice (some ⟨g,0,none⟩) c.length cap] w λe w'=>e=.returned (.slice (some ⟨w.heap.size,0,none⟩) c.length c.length)/\qK w' w.heap.size (.slice (some ⟨w.heap.size,0,none⟩) c.length c.length) (kV c c.length)/\Below w.heap.size w w':=by
 obtain⟨i0,hi,hz0,hz1,hz2⟩:=info_parts Tryz.infoI;have HI:Hid (zF w 0 (.slice (some ⟨g,0,none⟩) c.length cap) c):=h;clear h;go_enter Tryz.func137,Tryz.ntmps137
 go_wp2_with (first|(at_make;refine wpList_make_full _ rfl (.tmp 7) (.tmp 7) 51 rfl w.heap.size 3 i0 (.int .i64 0) 1 Tryz.underlying51 hi hz0 hz1 .i64 .i64 _ _ c.length rfl rfl rfl rfl (by rw[hz2];omega) (by unfold maxLen;omega) (lG _) ?_;intro w1 hmk hgr))
 have hB1:Below w.heap.size w w1:=(Below.refl _ _).grown hgr (lG _) (λq hq=>by simp at hq)
 have HM:Hid (qK w1 w.heap.size (.slice (some ⟨w.heap.size,0,none⟩) c.length c.length) (kV c 0)):=by
  have:kV c 0=List.replicate c.length 0:=by
   unfold kV;apply List.ext_getElem
   ·simp
   ·intro i h1 h2;simp[Mt.kH]
  rw[this];exact qK.made hmk
 clear hmk hgr
 go_loopw [11] (λi wr=>∃k:Nat,k<=c.length/\i=.int .i64 k/\qK wr w.heap.size (.slice (some ⟨w.heap.size,0,none⟩) c.length c.length) (kV c k)/\Below w.heap.size w wr) (λi _=>c.length-(intOf i).toNat)
 case atStart=>exact⟨0,Nat.zero_le _,rfl,HM.out,hB1⟩
 case round =>
  obtain⟨k,hk,rfl,jS,hbr⟩:=hrel;by_cases zTI:k<c.length
  ·have hR:=zA5 HI.out hbr k zTI;have zQ2:=hok k zTI;have hk':(k:Int)<(c.length:Int):=by omega
   have HBR:Hid (Below w.heap.size w wr):=hbr;have HOW:Hid (qK wr w.heap.size (.slice (some ⟨w.heap.size,0,none⟩) c.length c.length) (kV c k)):=jS;have hwl:w.heap.size<wr.heap.size:=(World.ownsRow.lt jS w.heap.size rfl).2;have HLB:Hid (∀p:Int,Mt.kH c p k<=300):=λp=>Nat.le_trans (Mt.zEE c p k) (by omega)
   have HLE:Hid (∀p:Int,Mt.leads c k p=Mt.bB (c.getD k Mt.jY) k p):=λp=>rfl
   have HL1:Hid (∀X:Nat,(∀p:Nat,p<c.length->Mt.leads c k (p:Int)=decide (p=X))->kV c (k+1)=(kV c k).set X ((Mt.kH c (X:Int) k:Int)+1)):=λX=>zOx c k zTI X
   clear hbr jS;generalize c.getD k Mt.jY=I at *;have HOK:Hid (Mt.zHX c k I):=zQ2;clear zQ2;go_upto_region 5 with (first|(refine wpList_load_mid (by rfl) 48 (.tmp 14) (by rfl) g (k*4) (by rfl) (kM I) _ hR Tryz.underlying48 rfl (by rw[Tryz.sizeIn];rfl) ?_)|(refine zM 48 4 Tryz.sizeIn (by rfl) (.tmp 5) (.tmp 15) (by rfl) wr.heap.size (yR I) (by rfl) (by rfl) (by exact jR _ _) (by rfl) (by rfl) (tN I) ?_;intro w3 r1 r2 r3 r4))
   obtain⟨x0,x1,x2,B3,B4⟩:=zF1 HBR.out r1 r4;have HB3:Hid (Below w.heap.size w w3):=B3;have HO3:Hid (qK w3 w.heap.size (.slice (some ⟨w.heap.size,0,none⟩) c.length c.length) (kV c k)):=HOW.out.below B4;have zTz:wr.heap.size<w3.heap.size:=(lI.1 r1).1
   have HAT:Hid (∀X:Nat,X<c.length->w3.cell? ⟨w.heap.size,X,none⟩=some (.int .i64 (Mt.kH c (X:Int) k:Nat))/\w3.frozen? ⟨w.heap.size,X,none⟩=false):=λX hX=>by
    have:=HO3.out.at X (by rw[vB];exact hX) (by rw[vB]);rw[zBz c k X hX]at this;exact this
   have HST:Hid (∀(X:Nat) (v:Int),qK (w3.setCell ⟨w.heap.size,X,none⟩ (.int .i64 v)) w.heap.size (.slice (some ⟨w.heap.size,0,none⟩) c.length c.length) ((kV c k).set X v)/\Below w.heap.size w (w3.setCell ⟨w.heap.size,X,none⟩ (.int .i64 v))):=λX v=>⟨HO3.out.set (by rw[vB]) X v,HB3.out.setCell (p:=⟨w.heap.size,X,none⟩) (lG _) _⟩
   have HI3:Hid (∀z:World,(∀q,q≠w.heap.size->z.heap[q]?=w3.heap[q]?)->z.cell? ⟨wr.heap.size,1,none⟩=some (.int .i64 I.x)/\z.cell? ⟨wr.heap.size,2,none⟩=some (.int .i64 I.y)):=λz hz=>by
    have hb:=(hz wr.heap.size (by omega)).trans r1;exact⟨(zC hb).1 1,(zC hb).1 2⟩
   clear r1 r2 r3 r4 B3 B4 hR
   have HOP:Hid (((I.op==2)=true/\(I.y != I.x)=true)\/((I.op==2)=true/\(I.y != I.x)=false)\/((I.op==2)=false/\(I.op==3)=true)\/((I.op==2)=false/\(I.op==3)=false/\(I.op==5)=true)\/((I.op==2)=false/\(I.op==3)=false/\(I.op==5)=false/\(I.op==11)=true)\/((I.op==2)=false/\(I.op==3)=false/\(I.op==5)=false/\(I.op==11)=false/\(I.op==12)=true)\/((I.op==2)=false/\(I.op==3)=false/\(I.op==5)=false/\(I.op==11)=false/\(I.op==12)=false/\(I.op==13)=true)\/((I.op==2)=false/\(I.op==3)=false/\(I.op==5)=false/\(I.op==11)=false/\(I.op==12)=false/\(I.op==13)=false)):=by
    show _\/_;simp only[beq_iff_eq,beq_eq_false_iff_ne,bne_iff_ne,bne_eq_false_iff_eq];omega
   rcases HOP.out with ⟨e2,ey⟩ | ⟨e2,ey⟩ | ⟨e2,e3⟩ | ⟨e2,e3,e5⟩ | ⟨e2,e3,e5,e11⟩ | ⟨e2,e3,e5,e11,e12⟩ | ⟨e2,e3,e5,e11,e12,e13⟩ | ⟨e2,e3,e5,e11,e12,e13⟩
   ·have ho:I.op=2:=by simpa using e2
    have hok2:=HOK.out.1 ho;have hne:I.y≠I.x:=by simpa using ey
    obtain⟨X,hX⟩:∃X:Nat,I.x=(X:Int):=⟨I.x.toNat,by omega⟩
    have hXl:X<c.length:=by omega
    have zRc:(X:Int)<(c.length:Int):=by omega
    obtain⟨Y,hY⟩:∃Y:Nat,I.y=(Y:Int):=⟨I.y.toNat,by omega⟩
    have hYl:Y<c.length:=by omega
    have zTA:(Y:Int)<(c.length:Int):=by omega
    have HE:Hid (kV c (k+1)=((kV c k).set X ((Mt.kH c (X:Int) k:Int)+1)).set Y ((Mt.kH c (Y:Int) k:Int)+1)):=zOy c k zTI X Y (by omega) (λp hp=>by
     rw[HLE.out];unfold Mt.bB;rw[if_pos ho,hX,hY,Bool.eq_iff_iff];simp only[Bool.or_eq_true,beq_iff_eq,decide_eq_true_eq];omega)
    obtain⟨z1,z2⟩:=HAT.out X hXl;obtain⟨v1,v2⟩:=HAT.out Y hYl;have hb:=HLB.out (X:Int);have zTK:=HLB.out (Y:Int);obtain⟨j1,j2⟩:=HI3.out (w3.setCell ⟨w.heap.size,X,none⟩ (.int .i64 ((Mt.kH c (X:Int) k:Int)+1))) (λq hq=>Below.heap_setCell _ _ _ _ hq);have hYX:Y≠X:=by omega
    have v3:(w3.setCell ⟨w.heap.size,X,none⟩ (.int .i64 ((Mt.kH c (X:Int) k:Int)+1))).cell? ⟨w.heap.size,Y,none⟩=some (.int .i64 (Mt.kH c (Y:Int) k:Nat)):=by
     have:=(HST.out X ((Mt.kH c (X:Int) k:Int)+1)).1.at Y (by rw[List.length_set,vB];exact hYl) (by rw[List.length_set,vB]);rw[this.1,lH,List.getElem?_set_ne (by omega),<-lH,zBz c k Y hYl]
    have v4:(w3.setCell ⟨w.heap.size,X,none⟩ (.int .i64 ((Mt.kH c (X:Int) k:Int)+1))).frozen? ⟨w.heap.size,Y,none⟩=false :=
     ((HST.out X ((Mt.kH c (X:Int) k:Int)+1)).1.at Y (by rw[List.length_set,vB];exact hYl) (by rw[List.length_set,vB])).2
    rw[hX]at j1 x1;rw[hY]at j2;rw[hX,hY]at ey;have HF:=(HST.out X ((Mt.kH c (X:Int) k:Int)+1)).1.set (by rw[List.length_set,vB]) Y ((Mt.kH c (Y:Int) k:Int)+1);rw[<-HE.out]at HF;have HFB:=(HST.out X ((Mt.kH c (X:Int) k:Int)+1)).2.setCell (p:=⟨w.heap.size,Y,none⟩) (lG _) (.int .i64 ((Mt.kH c (Y:Int) k:Int)+1));have HFH:Hid (_/\_):=And.intro HF HFB;clear HF HFB hok2 hX hY ho hne v1 v2;generalize Mt.kH c (X:Int) k=LX at *;generalize Mt.kH c (Y:Int) k=LY at *;go_upto_region 9 with fail
    generalize w3.setCell ⟨w.heap.size,X,none⟩ (.int .i64 ((LX:Int)+1))=w4 at *;clear x0 x1 x2 z1 z2;go_wp2_with fail
    go_roundw
    case rel=>exact⟨k+1,by omega,by go_num,HFH.out.1,HFH.out.2⟩
    case measure=>simp[intOf];omega
   ·have ho:I.op=2:=by simpa using e2
    have hok2:=HOK.out.1 ho;have hne:I.y=I.x:=by simpa using ey
    obtain⟨X,hX⟩:∃X:Nat,I.x=(X:Int):=⟨I.x.toNat,by omega⟩
    have hXl:X<c.length:=by omega
    have zRc:(X:Int)<(c.length:Int):=by omega
    have HE:Hid (kV c (k+1)=(kV c k).set X ((Mt.kH c (X:Int) k:Int)+1)):=HL1.out X (λp hp=>by
     rw[HLE.out];unfold Mt.bB;rw[if_pos ho,hne,hX,Bool.eq_iff_iff];simp only[Bool.or_eq_true,beq_iff_eq,decide_eq_true_eq];omega)
    obtain⟨z1,z2⟩:=HAT.out X hXl;have hb:=HLB.out (X:Int);obtain⟨j1,j2⟩:=HI3.out (w3.setCell ⟨w.heap.size,X,none⟩ (.int .i64 ((Mt.kH c (X:Int) k:Int)+1))) (λq hq=>Below.heap_setCell _ _ _ _ hq);rw[hne,hX]at j2;rw[hX]at j1 x1;have HF:=HST.out X ((Mt.kH c (X:Int) k:Int)+1);rw[<-HE.out]at HF;have HFH:Hid (_/\_):=HF;have hxx:((X:Int) != (X:Int))=false:=by simp
    clear HF hok2 hX ho hne ey;generalize Mt.kH c (X:Int) k=LX at *;go_upto_region 9 with fail
    generalize w3.setCell ⟨w.heap.size,X,none⟩ (.int .i64 ((LX:Int)+1))=w4 at *;clear x0 x1 x2 z1 z2;go_wp2_with fail
    go_roundw
    case rel=>exact⟨k+1,by omega,by go_num,HFH.out.1,HFH.out.2⟩
    case measure=>simp[intOf];omega
   ·have ho:I.op=3:=by simpa using e3
    have hok2:=HOK.out.2.1 ho;obtain⟨X,hX⟩:∃X:Nat,I.x=(X:Int):=⟨I.x.toNat,by omega⟩
    have hXl:X<c.length:=by omega
    have zRc:(X:Int)<(c.length:Int):=by omega
    have HE:Hid (kV c (k+1)=(kV c k).set X ((Mt.kH c (X:Int) k:Int)+1)):=HL1.out X (λp hp=>by
     rw[HLE.out];unfold Mt.bB;rw[if_neg (by omega),if_pos (by omega)];rw[hX,Bool.eq_iff_iff];simp only[beq_iff_eq,decide_eq_true_eq];omega)
    obtain⟨z1,z2⟩:=HAT.out X hXl;have hb:=HLB.out (X:Int);rw[hX]at x1;have HF:=HST.out X ((Mt.kH c (X:Int) k:Int)+1);have HFH:Hid (qK (w3.setCell ⟨w.heap.size,X,none⟩ (.int .i64 ((Mt.kH c (X:Int) k:Int)+1))) w.heap.size (.slice (some ⟨w.heap.size,0,none⟩) c.length c.length) (kV c (k+1))/\Below w.heap.size w (w3.setCell ⟨w.heap.size,X,none⟩ (.int .i64 ((Mt.kH c (X:Int) k:Int)+1)))):=by rw[HE.out];exact HF
    clear HF hok2 hX ho;generalize Mt.kH c (X:Int) k=LX at *;go_wp2_with fail
    go_roundw
    case rel=>exact⟨k+1,by omega,by go_num,HFH.out.1,HFH.out.2⟩
    case measure=>simp[intOf];omega
   ·have ho:I.op=5:=by simpa using e5
    have hok2:=HOK.out.2.2.2.1 ho;obtain⟨X,hX⟩:∃X:Nat,I.x=(X:Int):=⟨I.x.toNat,by omega⟩
    have hXl:X<c.length:=by omega
    have zRc:(X:Int)<(c.length:Int):=by omega
    have HE:Hid (kV c (k+1)=(kV c k).set X ((Mt.kH c (X:Int) k:Int)+1)):=HL1.out X (λp hp=>by
     rw[HLE.out];unfold Mt.bB;rw[if_neg (by omega),if_pos (by omega)];rw[hX,Bool.eq_iff_iff];simp only[beq_iff_eq,decide_eq_true_eq];omega)
    obtain⟨z1,z2⟩:=HAT.out X hXl;have hb:=HLB.out (X:Int);rw[hX]at x1;have HF:=HST.out X ((Mt.kH c (X:Int) k:Int)+1);have HFH:Hid (qK (w3.setCell ⟨w.heap.size,X,none⟩ (.int .i64 ((Mt.kH c (X:Int) k:Int)+1))) w.heap.size (.slice (some ⟨w.heap.size,0,none⟩) c.length c.length) (kV c (k+1))/\Below w.heap.size w (w3.setCell ⟨w.heap.size,X,none⟩ (.int .i64 ((Mt.kH c (X:Int) k:Int)+1)))):=by rw[HE.out];exact HF
    clear HF hok2 hX ho;generalize Mt.kH c (X:Int) k=LX at *;go_wp2_with fail
    go_roundw
    case rel=>exact⟨k+1,by omega,by go_num,HFH.out.1,HFH.out.2⟩
    case measure=>simp[intOf];omega
   ·have ho:I.op=11:=by simpa using e11
    have hok2:=HOK.out.2.2.2.2.2.1 ho;obtain⟨X,hX⟩:∃X:Nat,I.y=(X:Int):=⟨I.y.toNat,by omega⟩
    have hXl:X<c.length:=by omega
    have zRc:(X:Int)<(c.length:Int):=by omega
    have HE:Hid (kV c (k+1)=(kV c k).set X ((Mt.kH c (X:Int) k:Int)+1)):=HL1.out X (λp hp=>by
     rw[HLE.out];unfold Mt.bB;rw[if_neg (by omega),if_neg (by omega),if_pos (by omega)];rw[hX,Bool.eq_iff_iff];simp only[beq_iff_eq,decide_eq_true_eq];omega)
    obtain⟨z1,z2⟩:=HAT.out X hXl;have hb:=HLB.out (X:Int);rw[hX]at x2;have HF:=HST.out X ((Mt.kH c (X:Int) k:Int)+1);have HFH:Hid (qK (w3.setCell ⟨w.heap.size,X,none⟩ (.int .i64 ((Mt.kH c (X:Int) k:Int)+1))) w.heap.size (.slice (some ⟨w.heap.size,0,none⟩) c.length c.length) (kV c (k+1))/\Below w.heap.size w (w3.setCell ⟨w.heap.size,X,none⟩ (.int .i64 ((Mt.kH c (X:Int) k:Int)+1)))):=by rw[HE.out];exact HF
    clear HF hok2 hX ho;generalize Mt.kH c (X:Int) k=LX at *;go_wp2_with fail
    go_roundw
    case rel=>exact⟨k+1,by omega,by go_num,HFH.out.1,HFH.out.2⟩
    case measure=>simp[intOf];omega
   ·have ho:I.op=12:=by simpa using e12
    have HE:Hid (kV c (k+1)=kV c k):=zHw c k zTI (λp hp=>by
     rw[HLE.out];unfold Mt.bB;rw[if_neg (by omega),if_neg (by omega),if_neg (by omega),if_pos (by omega)])
    clear ho;go_wp2_with fail
    go_roundw
    case rel=>exact⟨k+1,by omega,by go_num,by rw[HE.out];exact HO3.out,HB3.out⟩
    case measure=>simp[intOf];omega
   ·have ho:I.op=13:=by simpa using e13
    have HE:Hid (kV c (k+1)=kV c k):=zHw c k zTI (λp hp=>by
     rw[HLE.out];unfold Mt.bB;rw[if_neg (by omega),if_neg (by omega),if_neg (by omega),if_pos (by omega)])
    clear ho;go_wp2_with fail
    go_roundw
    case rel=>exact⟨k+1,by omega,by go_num,by rw[HE.out];exact HO3.out,HB3.out⟩
    case measure=>simp[intOf];omega
   ·have hn:I.op≠2/\I.op≠3/\I.op≠5/\I.op≠11/\I.op≠12/\I.op≠13:=by simp only[beq_eq_false_iff_ne]at *;omega
    have hk1:k+1<c.length:=HOK.out.2.2.2.2.2.2.1 hn.2.2.2.2.2
    have HE:Hid (kV c (k+1)=(kV c k).set (k+1) ((Mt.kH c ((k+1:Nat):Int) k:Int)+1)):=HL1.out (k+1) (λp hp=>by
     rw[HLE.out];unfold Mt.bB;rw[if_neg hn.1,if_neg (by omega),if_neg hn.2.2.2.1,if_neg (by omega),Bool.eq_iff_iff];simp only[beq_iff_eq,decide_eq_true_eq];omega)
    obtain⟨z1,z2⟩:=HAT.out (k+1) hk1;have hb:=HLB.out ((k+1:Nat):Int);have zTB:(k:Int)+1<(c.length:Int):=by omega
    have HF:=HST.out (k+1) ((Mt.kH c ((k+1:Nat):Int) k:Int)+1);rw[<-HE.out]at HF;have HFH:Hid (_/\_):=HF;clear HF hn;generalize Mt.kH c ((k+1:Nat):Int) k=LX at *;go_wp2_with fail
    go_roundw
    case rel=>exact⟨k+1,by omega,by go_num,HFH.out.1,HFH.out.2⟩
    case measure=>simp[intOf];omega
  ·have hk2:k=c.length:=by omega
   subst hk2;have HBR:Hid (Below w.heap.size w wr):=hbr;have HOW:Hid (qK wr w.heap.size (.slice (some ⟨w.heap.size,0,none⟩) c.length c.length) (kV c c.length)):=jS;clear hbr jS;go_wp2_with fail
   go_ret;exact⟨rfl,HOW.out,HBR.out⟩
theorem zF3(c:List Mt.zTG)(hok:Mt.codeOk c)(hl:c.length<=300)(g cap:Nat)(w:World)(h:zF w 0 (.slice (some ⟨g,0,none⟩) c.length cap) c) :
  Calls Tryz.prog 111 #[.slice (some ⟨g,0,none⟩) c.length cap] w λe w'=>e=.returned (.slice (some ⟨w.heap.size,0,none⟩) c.length c.length)/\qQ w' w.heap.size (.slice (some ⟨w.heap.size,0,none⟩) c.length c.length) ((List.range c.length).map λp:Nat=>decide (1<Mt.kH c (p:Int) c.length))/\Below w.heap.size w w':=by
 obtain⟨i0,hi,hz0,hz1,hz2⟩:=info_parts Tryz.infoB;have HI:Hid (zF w 0 (.slice (some ⟨g,0,none⟩) c.length cap) c):=h;have HOK:Hid (Mt.codeOk c):=hok;clear h hok;go_enter Tryz.func111,Tryz.ntmps111
 go_wp2_with (first|(at_make;refine wpList_make_full _ rfl (.tmp 7) (.tmp 7) 81 rfl w.heap.size 4 i0 (.bool false) 1 Tryz.underlying81 hi hz0 hz1 .i64 .i64 _ _ c.length rfl rfl rfl rfl (by rw[hz2];omega) (by unfold maxLen;omega) (lG _) ?_;intro w1 hmk hgr))
 have hB1:Below w.heap.size w w1:=(Below.refl _ _).grown hgr (lG _) (λq hq=>by simp at hq);have HM:Hid (qQ w1 w.heap.size (.slice (some ⟨w.heap.size,0,none⟩) c.length c.length) (fill (λp:Nat=>decide (1<Mt.kH c (p:Int) c.length)) false 0 c.length)):=by rw[zB1];exact qQ.made hmk
 have HL:Hid (Calls Tryz.prog 137 #[.slice (some ⟨g,0,none⟩) c.length cap] w1 _):=zIG c HOK.out hl g cap w1 (HI.out.below hB1);have hs1:w.heap.size<w1.heap.size:=(World.ownsRow.lt hmk w.heap.size rfl).2;have HB1:Hid (Below w.heap.size w w1):=hB1;clear hmk hgr hB1;refine HL.out.mono ?_;rintro e w2 ⟨rfl,hown2,zTK⟩;have HO2:Hid (qK w2 w1.heap.size (.slice (some ⟨w1.heap.size,0,none⟩) c.length c.length) (kV c c.length)):=hown2;have HM2:Hid (qQ w2 w.heap.size (.slice (some ⟨w.heap.size,0,none⟩) c.length c.length) (fill (λp:Nat=>decide (1<Mt.kH c (p:Int) c.length)) false 0 c.length)):=HM.out.below zTK;have HB2:Hid (Below w.heap.size w w2):=HB1.out.trans (zTK.mono (by omega));clear hown2 zTK HL HM HB1;generalize hg1:w1.heap.size=g1 at *;go_wp2_with fail
 go_loopw [12] (λi wr=>∃k:Nat,k<=c.length/\i=.int .i64 k/\qQ wr w.heap.size (.slice (some ⟨w.heap.size,0,none⟩) c.length c.length) (fill (λp:Nat=>decide (1<Mt.kH c (p:Int) c.length)) false k c.length)/\qK wr g1 (.slice (some ⟨g1,0,none⟩) c.length c.length) (kV c c.length)/\Below w.heap.size w wr) (λi _=>c.length-(intOf i).toNat)
 case atStart=>exact⟨0,Nat.zero_le _,rfl,HM2.out,HO2.out,HB2.out⟩
 case round =>
  obtain⟨k,hk,rfl,jS,hld,hbr⟩:=hrel;by_cases zTI:k<c.length
  ·obtain⟨x1,x2⟩:=jS.at k (by rw[fK];exact zTI) (by rw[fK]);obtain⟨y1,y2⟩:=hld.at k (by rw[vB];exact zTI) (by rw[vB]);rw[zBz c _ k zTI]at y1;have hk':(k:Int)<(c.length:Int):=by omega
   have O4:=jS.set (by rw[fK]) k (decide (1<Mt.kH c (k:Int) c.length));rw[zDb (λp:Nat=>decide (1<Mt.kH c (p:Int) c.length)) false k c.length]at O4
   have L4:qK (wr.setCell ⟨w.heap.size,k,none⟩ (.bool (decide (1<Mt.kH c (k:Int) c.length)))) g1 (.slice (some ⟨g1,0,none⟩) c.length c.length) (kV c c.length):=by
    unfold qK at hld |-;rw[vB]at hld |-;exact zT hld (λq hq=>by cases hq;exact Below.heap_setCell _ _ _ _ (by show g1≠w.heap.size;omega))
   have HO4:Hid (qQ (wr.setCell ⟨w.heap.size,k,none⟩ (.bool (decide (1<Mt.kH c (k:Int) c.length)))) w.heap.size (.slice (some ⟨w.heap.size,0,none⟩) c.length c.length) (fill (λp:Nat=>decide (1<Mt.kH c (p:Int) c.length)) false (k+1) c.length)/\qK (wr.setCell ⟨w.heap.size,k,none⟩ (.bool (decide (1<Mt.kH c (k:Int) c.length)))) g1 (.slice (some ⟨g1,0,none⟩) c.length c.length) (kV c c.length)/\Below w.heap.size w (wr.setCell ⟨w.heap.size,k,none⟩ (.bool (decide (1<Mt.kH c (k:Int) c.length))))):=⟨O4,L4,hbr.setCell (p:=⟨w.heap.size,k,none⟩) (lG _) _⟩
   clear jS hbr O4 L4 hld y2;generalize (fill (λp:Nat=>decide (1<Mt.kH c (p:Int) c.length)) false k c.length).getD k false=zz at *;generalize Mt.kH c (k:Int) c.length=lk at *
   have HD:Hid (decide ((lk:Int)>=2)=decide (1<lk)/\decide (lk>=2)=decide (1<lk)):=by
    constructor <;> (rw[decide_eq_decide];omega)
   go_wp2_with fail
   go_roundw
   case rel=>first | exact⟨k+1,by omega,by go_num,HO4.out⟩|(rw[HD.out.1];exact⟨k+1,by omega,by go_num,HO4.out⟩)|(rw[HD.out.2];exact⟨k+1,by omega,by go_num,HO4.out⟩)
   case measure=>simp[intOf];omega
  ·have hk2:k=c.length:=by omega
   subst hk2;rw[zDa]at jS;have HBR:Hid (Below w.heap.size w wr):=hbr;have HOW:Hid (qQ wr w.heap.size (.slice (some ⟨w.heap.size,0,none⟩) c.length c.length) ((List.range c.length).map λp:Nat=>decide (1<Mt.kH c (p:Int) c.length))):=jS;clear hbr jS;go_wp2_with fail
   go_ret;exact⟨rfl,HOW.out,HBR.out⟩
def yS(c:List Mt.zTG)(zB zI:Int):List Bool:=(List.range c.length).map λp:Nat=>Mt.picked c p zB zI
theorem zAK(c:List Mt.zTG)(zB zI:Int):(yS c zB zI).length=c.length:=by simp[yS]
theorem zPY:∀k,k<32->Mt.zAr 4294967295 k=true:=by decide
theorem zOz(c:List Mt.zTG)(hok:Mt.codeOk c)(zB zI:Int)(hp:0<=zB/\zB<=4)(hm0:0<=zI)(hm1:zI<=4294967295)(hl:c.length<=300)(g cap:Nat)(w:World)(h:zF w 0 (.slice (some ⟨g,0,none⟩) c.length cap) c) :
  Calls Tryz.prog 73 #[.slice (some ⟨g,0,none⟩) c.length cap,.int .i64 zB,.int .i64 zI] w λe w'=>e=.returned (.slice (some ⟨w.heap.size,0,none⟩) c.length c.length)/\qQ w' w.heap.size (.slice (some ⟨w.heap.size,0,none⟩) c.length c.length) (yS c zB zI)/\Below w.heap.size w w':=by
 obtain⟨i0,hi,hz0,hz1,hz2⟩:=info_parts Tryz.infoB;have H1:=zBj c 4294967295 (by omega) (by omega) hl g cap w;have H4:=zBj c zI hm0 hm1 hl g cap w;have H2:=zF2 c hok hl g cap w h;have H3:=zF3 c hok hl g cap w h;have HH1:Hid (Calls Tryz.prog 109 #[.slice (some ⟨g,0,none⟩) c.length cap,.int .i64 4294967295] w _):=H1;have HH4:Hid (Calls Tryz.prog 109 #[.slice (some ⟨g,0,none⟩) c.length cap,.int .i64 zI] w _):=H4;have HH2:Hid (Calls Tryz.prog 110 #[.slice (some ⟨g,0,none⟩) c.length cap] w _):=H2;have HH3:Hid (Calls Tryz.prog 111 #[.slice (some ⟨g,0,none⟩) c.length cap] w _):=H3
 have HPC:Hid (((zB==1)=true)\/((zB==1)=false/\(zB==2)=true)\/((zB==1)=false/\(zB==2)=false/\(zB==3)=true)\/((zB==1)=false/\(zB==2)=false/\(zB==3)=false/\(zB==4)=true)\/((zB==1)=false/\(zB==2)=false/\(zB==3)=false/\(zB==4)=false)):=by
  show _\/_;simp only[beq_iff_eq,beq_eq_false_iff_ne];omega
 clear H1 H2 H3 H4 h hok;rcases HPC.out with e1 | ⟨e1,e2⟩ | ⟨e1,e2,e3⟩ | ⟨e1,e2,e3,e4⟩ | ⟨e1,e2,e3,e4⟩
 ·go_enter Tryz.func73,Tryz.ntmps73
  go_wp2_with fail
  refine HH1.out.mono ?_;rintro e w1 ⟨rfl,ho,hb⟩
  have HF:Hid (qQ w1 w.heap.size (.slice (some ⟨w.heap.size,0,none⟩) c.length c.length) (yS c zB zI)/\Below w.heap.size w w1):=by
   refine⟨?_,hb⟩
   have:yS c zB zI=(List.range c.length).map λp=>Mt.zAr 4294967295 (p % 32):=by
    unfold yS;apply List.map_congr_left;intro p _;rw[zPY _ (Nat.mod_lt _ (by omega))];have ep:zB=1:=by simpa using e1
    unfold Mt.picked;rw[if_neg (by omega),if_pos ep]
   rw[this];exact ho
  clear ho hb;go_wp2_with fail
  go_ret;exact⟨rfl,HF.out⟩
 ·go_enter Tryz.func73,Tryz.ntmps73
  go_wp2_with fail
  refine HH2.out.mono ?_;rintro e w1 ⟨rfl,ho,hb⟩
  have HF:Hid (qQ w1 w.heap.size (.slice (some ⟨w.heap.size,0,none⟩) c.length c.length) (yS c zB zI)/\Below w.heap.size w w1):=by
   refine⟨?_,hb⟩
   have:yS c zB zI=(List.range c.length).map λp:Nat=>c.any (Mt.xG (p:Int)):=by
    unfold yS;apply List.map_congr_left;intro p _;have ep:zB=2:=by simpa using e2
    unfold Mt.picked;cases hh:c.any (Mt.xG (p:Int))
    ·rw[if_neg (λx=>by cases x.2),if_neg (by omega),if_neg (by omega),if_neg (by omega)]
    ·rw[if_pos ⟨ep,rfl⟩]
   rw[this];exact ho
  clear ho hb;go_wp2_with fail
  go_ret;exact⟨rfl,HF.out⟩
 ·go_enter Tryz.func73,Tryz.ntmps73
  go_wp2_with fail
  refine HH3.out.mono ?_;rintro e w1 ⟨rfl,ho,hb⟩
  have HF:Hid (qQ w1 w.heap.size (.slice (some ⟨w.heap.size,0,none⟩) c.length c.length) (yS c zB zI)/\Below w.heap.size w w1):=by
   refine⟨?_,hb⟩
   have:yS c zB zI=(List.range c.length).map λp:Nat=>decide (1<Mt.kH c (p:Int) c.length):=by
    unfold yS;apply List.map_congr_left;intro p _;have ep:zB=3:=by simpa using e3
    unfold Mt.picked;rw[if_neg (by omega),if_neg (by omega),if_pos ep]
   rw[this];exact ho
  clear ho hb;go_wp2_with fail
  go_ret;exact⟨rfl,HF.out⟩
 ·go_enter Tryz.func73,Tryz.ntmps73
  go_wp2_with fail
  refine HH4.out.mono ?_;rintro e w1 ⟨rfl,ho,hb⟩
  have HF:Hid (qQ w1 w.heap.size (.slice (some ⟨w.heap.size,0,none⟩) c.length c.length) (yS c zB zI)/\Below w.heap.size w w1):=by
   refine⟨?_,hb⟩
   have:yS c zB zI=(List.range c.length).map λp=>Mt.zAr zI (p % 32):=by
    unfold yS;apply List.map_congr_left;intro p _;have ep:zB=4:=by simpa using e4
    unfold Mt.picked;rw[if_neg (by omega),if_neg (by omega),if_neg (by omega),if_pos ep]
   rw[this];exact ho
  clear ho hb;go_wp2_with fail
  go_ret;exact⟨rfl,HF.out⟩
 ·have HZ:Hid (yS c zB zI=List.replicate c.length false):=by
   show _=_;have ep:zB≠1/\zB≠2/\zB≠3/\zB≠4:=by simp only[beq_eq_false_iff_ne]at *;omega
   unfold yS;apply List.ext_getElem
   ·simp
   ·intro i h1 h2;simp only[List.getElem_map,List.getElem_range,List.getElem_replicate];unfold Mt.picked;rw[if_neg (by omega),if_neg (by omega),if_neg (by omega),if_neg (by omega)]
  go_enter Tryz.func73,Tryz.ntmps73
  go_wp2_with (first|(at_make;refine wpList_make_full _ rfl (.tmp 26) (.tmp 26) 81 rfl w.heap.size 4 i0 (.bool false) 1 Tryz.underlying81 hi hz0 hz1 .i64 .i64 _ _ c.length rfl rfl rfl rfl (by rw[hz2];omega) (by unfold maxLen;omega) (lG _) ?_;intro w1 hmk hgr))
  have hB1:Below w.heap.size w w1:=(Below.refl _ _).grown hgr (lG _) (λq hq=>by simp at hq);have HF:Hid (qQ w1 w.heap.size (.slice (some ⟨w.heap.size,0,none⟩) c.length c.length) (yS c zB zI)/\Below w.heap.size w w1):=by rw[HZ.out];exact⟨qQ.made hmk,hB1⟩
  clear hmk hgr hB1;go_wp2_with fail
  go_ret;exact⟨rfl,HF.out⟩
theorem zIH(c:List Mt.zTG)(zB zI:Int)(hb:Mt.nP c=false)(k:Nat)(hk:k<c.length):(Mt.jD c zB zI).getD k false=if Mt.zCQ c k=true then false else Mt.picked c k zB zI:=by
 unfold Mt.jD;rw[if_neg (by rw[hb];exact Bool.false_ne_true),lH,List.getElem?_map,List.getElem?_range hk];rfl
theorem zMR(c:List Mt.zTG)(zB zI:Int)(hb:Mt.nP c=true):Mt.kY (Mt.jD c zB zI) c.length=[]:=by
 unfold Mt.jD Mt.kY;rw[if_pos hb]
 have:((List.range c.length).filter λi=>(List.replicate c.length false).getD i false)=[]:=by
  rw[List.filter_eq_nil_iff];intro i hi;rw[lH,List.getElem?_replicate];split <;> simp
 rw[this];rfl
theorem zII(c:List Mt.zTG)(zB zI:Int)(k:Nat)(hk:k<c.length):(yS c zB zI).getD k false=Mt.picked c k zB zI:=by
 unfold yS;rw[lH,List.getElem?_map,List.getElem?_range hk];rfl
structure zJq (c:List Mt.zTG) (zB zI:Int) (w:World) (gp k q n cap:Nat) (wr:World):Prop where
 row:qK wr w.heap.size (.slice (some ⟨q,0,none⟩) n cap) (Mt.kY (Mt.jD c zB zI) k)
 len:n=(Mt.kY (Mt.jD c zB zI) k).length
 pk:qQ wr w.heap.size (.slice (some ⟨gp,0,none⟩) c.length c.length) (yS c zB zI)
 qp:q≠gp
 below:Below w.heap.size w wr
theorem zJq.next{c:List Mt.zTG}{zB zI:Int}{w wr w':World}{gp k q n cap:Nat}(h:zJq c zB zI w gp k q n cap wr)(hb:Below wr.heap.size wr w')(e:Mt.kY (Mt.jD c zB zI) (k+1)=Mt.kY (Mt.jD c zB zI) k):zJq c zB zI w gp (k+1) q n cap w' :=
 ⟨by rw[e];exact h.row.below hb,by rw[e];exact h.len,h.pk.below hb,h.qp,h.below.trans (hb.mono h.below.size)⟩
theorem zJq.push{c:List Mt.zTG}{zB zI:Int}{w wr w3 w4:World}{gp k q n cap q' cap':Nat}{E:Array Value}{te:TypeId}(h:zJq c zB zI w gp k q n cap wr)(hb:Below wr.heap.size wr w3)(hg:(w3.alloc (.cells E te)).grownBy w4 (some q))(hq:some q=some q'\/q'=w3.heap.size+1)
  (jS:w4.ownsRow w.heap.size 3 1 (.slice (some ⟨q',0,none⟩) (n+1) cap') (n+1) ((Mt.kY (Mt.jD c zB zI) k).map (Value.int .i64)++[.int .i64 (k:Int)])) (e:Mt.kY (Mt.jD c zB zI) (k+1)=Mt.kY (Mt.jD c zB zI) k++[(k:Int)]):zJq c zB zI w gp (k+1) q' (n+1) cap' w4:=by
 have hgp:gp<wr.heap.size:=(World.ownsRow.lt h.pk gp rfl).2;have hql:=World.ownsRow.lt h.row q rfl;have hs:=hb.size;refine⟨?_,by rw[e,lM,<-h.len];rfl,?_,?_,?_⟩
 ·unfold qK;rw[e,lM,List.map_append,<-h.len];exact jS
 ·have hp:=h.pk.below hb;unfold qQ at hp |-;rw[zAK]at hp |-;refine zT hp (λz hz=>?_);cases hz;rw[hg.block gp (by simp;omega) (λee=>h.qp (by cases ee;rfl)),kT _ _ _ (by omega)]
 ·rcases hq with hq | hq
  ·cases hq;exact h.qp
  ·omega
 ·refine⟨hg.os.trans (hb.os.trans h.below.os),hg.tape.trans (hb.tape.trans h.below.tape),hg.output.trans (hb.output.trans h.below.output),?_,λi hi=>?_⟩
  ·have:=hg.size;have:=h.below.size;simp at *;omega
  ·have:=h.below.size;rw[hg.block i (by simp;omega) (λee=>by cases ee;omega),kT _ _ _ (by omega),hb.block i (by omega),h.below.block i hi]
theorem zBk(c:List Mt.zTG)(hok:Mt.codeOk c)(hN:Mt.zKG 0 c)(zB zI:Int)(hp:0<=zB/\zB<=4)(hm0:0<=zI)(hm1:zI<=4294967295)(hl:c.length<=300)(g cap:Nat)(w:World)(h:zF w 0 (.slice (some ⟨g,0,none⟩) c.length cap) c) :
  Calls Tryz.prog 44 #[.slice (some ⟨g,0,none⟩) c.length cap,.int .i64 zB,.int .i64 zI] w λe w'=>∃q n cp,e=.returned (.slice (some ⟨q,0,none⟩) n cp)/\n=(Mt.kY (Mt.jD c zB zI) c.length).length/\qK w' w.heap.size (.slice (some ⟨q,0,none⟩) n cp) (Mt.kY (Mt.jD c zB zI) c.length)/\Below w.heap.size w w':=by
 obtain⟨i0,hi,hz0,hz1,hz2⟩:=info_parts Tryz.infoI;obtain⟨W1,hW1⟩:∃W1,W1=w.alloc (.cells #[] 3):=⟨_,rfl⟩
 have B1:Below w.heap.size w W1:=by rw[hW1];exact(Below.refl _ _).alloc (lG _) _
 have Z1:W1.heap.size=w.heap.size+1:=by rw[hW1];simp
 have R1:W1.ownsRow w.heap.size 3 1 (.slice (some ⟨w.heap.size,0,none⟩) 0 0) 0 []:=by rw[hW1];exact World.ownsRow_lit w #[] 0 (lG _) (by unfold maxLen;omega) rfl
 have HHB:Hid (Calls Tryz.prog 72 #[.slice (some ⟨g,0,none⟩) c.length cap] W1 _):=zIF c hl g cap W1 (h.below B1);have HI:Hid (zF w 0 (.slice (some ⟨g,0,none⟩) c.length cap) c):=h;have zQ3:Hid (Mt.codeOk c/\Mt.zKG 0 c/\(0<=zB/\zB<=4)/\0<=zI/\zI<=4294967295):=⟨hok,hN,hp,hm0,hm1⟩
 clear h hok hN;have HB1:Hid (Below w.heap.size w W1):=B1;have HR1:Hid (W1.ownsRow w.heap.size 3 1 (.slice (some ⟨w.heap.size,0,none⟩) 0 0) 0 []):=R1;have HZ1:Hid (W1.heap.size=w.heap.size+1):=Z1;clear B1 R1 Z1;go_enter Tryz.func44,Tryz.ntmps44
 go_upto_region 2 with fail
 rw[<-hW1];clear hW1;cases hbk:Mt.nP c
 ·rw[hbk]at HHB;go_wp2_with fail
  refine HHB.out.mono ?_;rintro e w2 ⟨rfl,zTK⟩;have B2:Below w.heap.size w w2:=HB1.out.trans (zTK.mono (by have:=HZ1.out;omega));have HPK:Hid (Calls Tryz.prog 73 #[.slice (some ⟨g,0,none⟩) c.length cap,.int .i64 zB,.int .i64 zI] w2 _):=zOz c zQ3.out.1 zB zI zQ3.out.2.2.1 zQ3.out.2.2.2.1 zQ3.out.2.2.2.2 hl g cap w2 (HI.out.below B2);have HR2:Hid (w2.ownsRow w.heap.size 3 1 (.slice (some ⟨w.heap.size,0,none⟩) 0 0) 0 []):=qH HR1.out zTK;have HB2:Hid (Below w.heap.size w w2/\w.heap.size<w2.heap.size):=⟨B2,by have:=HZ1.out;have:=zTK.size;omega⟩
  clear zTK B2 HHB HR1 HB1 HZ1;go_wp2_with fail
  refine HPK.out.mono ?_;rintro e w3 ⟨rfl,hpk,zTL⟩
  have HC0:Hid (zJq c zB zI w w2.heap.size 0 w.heap.size 0 0 w3):=by
   refine⟨qH HR2.out zTL,rfl,?_,by have:=HB2.out.2;omega,HB2.out.1.trans (zTL.mono HB2.out.1.size)⟩;exact jG hpk (by have:=HB2.out.2;omega)
  clear hpk zTL HPK HR2 HB2;generalize w2.heap.size=gp at *;go_wp2_with fail
  go_loopw [7,9,22] (λv b i wr=>∃k q n cp:Nat,k<=c.length/\i=.int .i64 k/\b=.int .i64 (Mt.bh c k)/\v=.slice (some ⟨q,0,none⟩) n cp/\zJq c zB zI w gp k q n cp wr) (λ_ _ i _=>c.length-(intOf i).toNat)
  case atStart=>exact⟨0,w.heap.size,0,0,Nat.zero_le _,rfl,rfl,rfl,HC0.out⟩
  case round =>
   obtain⟨k,q,n,cp,hk,rfl,rfl,rfl,hch⟩:=hrel;by_cases zTI:k<c.length
   ·have hR:=zA5 HI.out hch.below k zTI;have hk':(k:Int)<(c.length:Int):=by omega
    have HCH:Hid (zJq c zB zI w gp k q n cp wr):=hch;have hsub:=Mt.zOw c zQ3.out.2.1 k zTI;have hnx:=Mt.xK (Mt.jD c zB zI) k;rw[zIH c zB zI hbk k zTI,<-hsub]at hnx;obtain⟨y1,y2⟩:=hch.pk.at k (by rw[zAK];exact zTI) (by rw[zAK]);rw[zII c zB zI k zTI]at y1;have hgp:gp<wr.heap.size:=(World.ownsRow.lt hch.pk gp rfl).2;have HBH:Hid (Mt.bh c (k+1)=if(k:Int)<Mt.bh c k then Mt.bh c k else if(c.getD k Mt.jY).op=11 then(c.getD k Mt.jY).y else Mt.bh c k):=rfl;have hnl:n<=300:=by rw[hch.len];have:=Mt.zAP (Mt.jD c zB zI) k;omega
    have HNX:Hid (Mt.kY (Mt.jD c zB zI) (k+1)=Mt.kY (Mt.jD c zB zI) k++if(if decide ((k:Int)<Mt.bh c k)=true then false else Mt.picked c k zB zI)=true then[(k:Int)]else[]):=hnx;have HBR:Hid (Below w.heap.size w wr):=hch.below;clear hch hsub hnx y2;generalize c.getD k Mt.jY=I at *;generalize hpk:Mt.picked c k zB zI=pk at *;generalize hbe:Mt.bh c k=bk at *;go_upto_region 9 with (first|(refine wpList_load_mid (by rfl) 48 (.tmp 25) (by rfl) g (k*4) (by rfl) (kM I) _ hR Tryz.underlying48 rfl (by rw[Tryz.sizeIn];rfl) ?_)|(refine zM 48 4 Tryz.sizeIn (by rfl) (.tmp 11) (.tmp 26) (by rfl) wr.heap.size (yR I) (by rfl) (by rfl) (by exact jR _ _) (by rfl) (by rfl) (tN I) ?_;intro w4 r1 r2 r3 r4))
    obtain⟨x0,x1,x2,B4,B5⟩:=zF1 HBR.out r1 r4;have z1:w4.cell? ⟨gp,k,none⟩=some (.bool pk):=(World.cell?_of_block (a:=⟨gp,k,none⟩) (B5.block gp hgp)).trans y1;have HB5:Hid (Below wr.heap.size wr w4):=B5;clear r1 r2 r3 r4 B4 B5 hR x1 y1;cases hd:decide ((k:Int)<bk)
    ·have hnb:¬(k:Int)<bk:=by simpa using hd
     have zQc:Hid (Mt.bh c (k+1)=if I.op=11 then I.y else bk):=by show _=_;rw[HBH.out,if_neg hnb]
     cases pk
     ·have HN1:Hid (Mt.kY (Mt.jD c zB zI) (k+1)=Mt.kY (Mt.jD c zB zI) k):=by
       show _=_;rw[HNX.out,hd];simp
      have HCN:Hid (zJq c zB zI w gp (k+1) q n cp w4):=HCH.out.next HB5.out HN1.out
      cases h11:(I.op==11)
      ·have zPZ:Hid (Mt.bh c (k+1)=bk):=by show _=_;rw[zQc.out,if_neg (by simpa using h11)]
       go_wp2_with fail
       go_roundw
       case rel=>exact⟨k+1,q,n,cp,by omega,by go_num,by rw[zPZ.out],rfl,HCN.out⟩
       case measure=>simp[intOf];omega
      ·have zPZ:Hid (Mt.bh c (k+1)=I.y):=by show _=_;rw[zQc.out,if_pos (by simpa using h11)]
       go_wp2_with fail
       go_roundw
       case rel=>exact⟨k+1,q,n,cp,by omega,by go_num,by rw[zPZ.out],rfl,HCN.out⟩
       case measure=>simp[intOf];omega
     ·have HN1:Hid (Mt.kY (Mt.jD c zB zI) (k+1)=Mt.kY (Mt.jD c zB zI) k++[(k:Int)]):=by
       show _=_;rw[HNX.out,hd];simp
      have HO4:Hid (w4.ownsRow w.heap.size 3 1 (.slice (some ⟨q,0,none⟩) n cp) n ((Mt.kY (Mt.jD c zB zI) k).map (Value.int .i64))):=by
       have:=HCH.out.row.below HB5.out;unfold qK at this;rw[<-HCH.out.len]at this;exact this
      have hws:w.heap.size<=w4.heap.size:=Nat.le_trans HBR.out.size HB5.out.size;cases h11:(I.op==11)
      ·have zPZ:Hid (Mt.bh c (k+1)=bk):=by show _=_;rw[zQc.out,if_neg (by simpa using h11)]
       go_wp2_with (at_builtin;refine wpList_append_lies _ rfl _ _ 51 rfl w.heap.size 3 i0 _ 1 8 Tryz.underlying51 hi hz0 hz1 hz2 rfl (by decide) _ n _ rfl (World.ownsRow.alloc HO4.out _) ⟨w4.heap.size,0,none⟩ 1 1 [.int .i64 (k:Int)] rfl rfl (xU _ _ _) (by simp[Value.oneCell']) (by decide) (by unfold maxLen;omega) (by omega) (by simp;omega) (w4.heap.size+1) (by simp) ?_)
       intro q' cap' w5 jS jL hqq zKh;have HCN:Hid (zJq c zB zI w gp (k+1) q' (n+1) cap' w5):=HCH.out.push HB5.out jL (by simpa[Value.ownBlock]using hqq) jS HN1.out;clear jS jL hqq zKh;go_wp2_with fail
       go_roundw
       case rel=>exact⟨k+1,q',n+1,cap',by omega,by go_num,by rw[zPZ.out],rfl,HCN.out⟩
       case measure=>simp[intOf];omega
      ·have zPZ:Hid (Mt.bh c (k+1)=I.y):=by show _=_;rw[zQc.out,if_pos (by simpa using h11)]
       go_wp2_with (at_builtin;refine wpList_append_lies _ rfl _ _ 51 rfl w.heap.size 3 i0 _ 1 8 Tryz.underlying51 hi hz0 hz1 hz2 rfl (by decide) _ n _ rfl (World.ownsRow.alloc HO4.out _) ⟨w4.heap.size,0,none⟩ 1 1 [.int .i64 (k:Int)] rfl rfl (xU _ _ _) (by simp[Value.oneCell']) (by decide) (by unfold maxLen;omega) (by omega) (by simp;omega) (w4.heap.size+1) (by simp) ?_)
       intro q' cap' w5 jS jL hqq zKh;have HCN:Hid (zJq c zB zI w gp (k+1) q' (n+1) cap' w5):=HCH.out.push HB5.out jL (by simpa[Value.ownBlock]using hqq) jS HN1.out;clear jS jL hqq zKh;go_wp2_with fail
       go_roundw
       case rel=>exact⟨k+1,q',n+1,cap',by omega,by go_num,by rw[zPZ.out],rfl,HCN.out⟩
       case measure=>simp[intOf];omega
    ·have hnb:(k:Int)<bk:=by simpa using hd
     have zQc:Hid (Mt.bh c (k+1)=bk):=by show _=_;rw[HBH.out,if_pos hnb]
     have HN1:Hid (Mt.kY (Mt.jD c zB zI) (k+1)=Mt.kY (Mt.jD c zB zI) k):=by
      show _=_;rw[HNX.out,hd];simp
     have HCN:Hid (zJq c zB zI w gp (k+1) q n cp w4):=HCH.out.next HB5.out HN1.out
     go_wp2_with fail
     go_roundw
     case rel=>exact⟨k+1,q,n,cp,by omega,by go_num,by rw[zQc.out],rfl,HCN.out⟩
     case measure=>simp[intOf];omega
   ·have hk2:k=c.length:=by omega
    subst hk2;have HCH:Hid (zJq c zB zI w gp c.length q n cp wr):=hch;clear hch;go_wp2_with fail
    go_ret;exact⟨q,n,cp,rfl,HCH.out.len,HCH.out.row,HCH.out.below⟩
 ·rw[hbk]at HHB;have HNB:Hid (Mt.kY (Mt.jD c zB zI) c.length=[]):=zMR c zB zI hbk;go_wp2_with fail
  refine HHB.out.mono ?_;rintro e w2 ⟨rfl,zTK⟩;have HF:Hid (Below w.heap.size w w2/\qK w2 w.heap.size (.slice (some ⟨w.heap.size,0,none⟩) 0 0) []):=⟨HB1.out.trans (zTK.mono (by have:=HZ1.out;omega)),qH HR1.out zTK⟩
  clear zTK;go_wp2_with fail
  go_ret;exact⟨w.heap.size,0,0,rfl,by rw[HNB.out];rfl,by rw[HNB.out];exact HF.out.2,HF.out.1⟩
theorem zCN(zB zI:Int)(w:World):Calls Tryz.prog 43 #[.int .i64 zB,.int .i64 zI] w λe w'=>e=.returned (.bool (Mt.kF zB zI))/\w=w':=by
 have HC:Hid (Mt.kF zB zI=(decide (zB>=0)&&decide (zB<=4)&&decide (zI>=0)&&decide (zI<=4294967295))):=by
  show _=_;unfold Mt.kF;rw[Bool.eq_iff_iff];simp;omega
 rw[HC.out];cases h1:decide (zB>=0)
 ·go_enter Tryz.func43,Tryz.ntmps43
  go_wp2_with fail
  go_ret;exact⟨rfl,rfl⟩
 cases h2:decide (zB<=4)
 ·go_enter Tryz.func43,Tryz.ntmps43
  go_wp2_with fail
  go_ret;exact⟨rfl,rfl⟩
 cases h3:decide (zI>=0)
 ·go_enter Tryz.func43,Tryz.ntmps43
  go_wp2_with fail
  go_ret;exact⟨rfl,rfl⟩
 cases h4:decide (zI<=4294967295)
 ·go_enter Tryz.func43,Tryz.ntmps43
  go_wp2_with fail
  go_ret;exact⟨rfl,rfl⟩
 ·go_enter Tryz.func43,Tryz.ntmps43
  go_wp2_with fail
  go_ret;exact⟨rfl,rfl⟩
theorem fT(p:ByteArray)(h:(Mt.kC p).2=0):(Mt.jN p).1=0:=by
 unfold Mt.kC at h;split at h
 ·rename_i x;exact absurd h x
 ·rename_i x;simpa using x
