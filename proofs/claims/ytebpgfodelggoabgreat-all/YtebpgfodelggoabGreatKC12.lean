import Derived.Test.YtebpgfodelggoabGreatKC10
import Derived.Test.YtebpgfodelggoabGreatKC11
import Derived.Test.YtebpgfodelggoabGreatKC08
set_option linter.unusedVariables false
set_option linter.unusedSimpArgs false
set_option maxRecDepth 100000
set_option maxHeartbeats 4000000
namespace Go.Proofs.YtebpgfodelggoabGreat
open Go.RowKit
theorem zGw(p:Int)(i:Mt.zTG):((i.op==11)=false/\Mt.nZ p i=false)\/((i.op==11)=true/\decide (p<i.y)=false/\Mt.nZ p i=false)\/((i.op==11)=true/\decide (p<i.y)=true/\Mt.nZ p i=true):=by
 unfold Mt.nZ;simp only[beq_iff_eq,beq_eq_false_iff_ne,decide_eq_true_eq,lJ];omega
theorem zLh(c:List Mt.zTG)(p:Nat)(base:Nat)(v:Value)(w:World)(h:zF w base v c)(hp:p<c.length)(hl:c.length<=300) :
  Calls Tryz.prog 74 #[v,.int .i64 p] w λe w'=>e=.returned (.bool (Mt.zCQ c p))/\w=w':=by
 rcases xE h with ⟨rfl,ao,cap,rfl⟩ | ⟨dI,g,cap,rfl,hcap,hg,hgb,hc⟩
 ·simp at hp
 ·have HC:Hid (∀k j,k<c.length->j<4->w.cell? ⟨g,k*4+j,none⟩=(kM (c.getD k Mt.jY))[j]?):=hc;clear hc h;go_enter Tryz.func74,Tryz.ntmps74
  go_wp2_with fail
  go_loop [5] (λi=>∃k:Nat,k<=p/\i=.int .i64 k/\(c.take k).any (Mt.nZ p)=false) (λi=>p-(intOf i).toNat)
  case atStart=>exact⟨0,Nat.zero_le _,rfl,rfl⟩
  case round =>
   obtain⟨k,hk,rfl,hr⟩:=hrel;have HR:Hid ((c.take k).any (Mt.nZ p)=false):=hr;clear hr;by_cases zTI:k<p
   ·have hc0:w.cell? ⟨g,k*4,none⟩=some (.int .i64 (c.getD k Mt.jY).op):=HC.out k 0 (by omega) (by omega);have hc2:w.cell? ⟨g,k*4+2,none⟩=some (.int .i64 (c.getD k Mt.jY).y):=HC.out k 2 (by omega) (by omega);have HN:Hid ((c.take (k+1)).any (Mt.nZ p)=((c.take k).any (Mt.nZ p)||Mt.nZ p (c.getD k Mt.jY))):=Mt.zAQ c _ k (by omega);have HY:Hid (Mt.nZ p (c.getD k Mt.jY)=true->Mt.zCQ c p=true):=λx=>Mt.wW c _ k p zTI (by omega) x
    generalize c.getD k Mt.jY=I at *;rcases zGw p I with ⟨e1,e⟩ | ⟨e1,e2,e⟩ | ⟨e1,e2,e⟩
    ·have HE:Hid ((c.take (k+1)).any (Mt.nZ p)=false):=by show _=_;rw[HN.out,HR.out,e];rfl
     clear e HN HR HY;go_wp2_with fail
     go_round
     case rel=>exact⟨k+1,by omega,by go_num,HE.out⟩
     case measure=>simp[intOf];omega
    ·have HE:Hid ((c.take (k+1)).any (Mt.nZ p)=false):=by show _=_;rw[HN.out,HR.out,e];rfl
     clear e HN HR HY;go_wp2_with fail
     go_round
     case rel=>exact⟨k+1,by omega,by go_num,HE.out⟩
     case measure=>simp[intOf];omega
    ·have HE:Hid (Mt.zCQ c p=true):=HY.out e;clear e HN HR HY;go_wp2_with fail
     go_ret;exact⟨jC (by rw[HE.out]),rfl⟩
   ·have hk2:k=p:=by omega
    subst hk2;go_wp2_with fail
    go_ret;exact⟨jC (by unfold Mt.zCQ;rw[HR.out]),rfl⟩
theorem zGx(x:Mt.zTG)(q p:Int) :
  ((x.op==2)=true/\(x.x==p)=true/\Mt.bB x q p=true) \/
  ((x.op==2)=true/\(x.x==p)=false/\Mt.bB x q p=(x.y==p)) \/
  ((x.op==2)=false/\(x.op==3)=true/\Mt.bB x q p=(x.x==p)) \/
  ((x.op==2)=false/\(x.op==3)=false/\(x.op==5)=true/\Mt.bB x q p=(x.x==p)) \/
  ((x.op==2)=false/\(x.op==3)=false/\(x.op==5)=false/\(x.op==11)=true/\Mt.bB x q p=(x.y==p)) \/
  ((x.op==2)=false/\(x.op==3)=false/\(x.op==5)=false/\(x.op==11)=false/\(x.op==12)=true/\Mt.bB x q p=false) \/
  ((x.op==2)=false/\(x.op==3)=false/\(x.op==5)=false/\(x.op==11)=false/\(x.op==12)=false/\(x.op==13)=true/\Mt.bB x q p=false) \/
  ((x.op==2)=false/\(x.op==3)=false/\(x.op==5)=false/\(x.op==11)=false/\(x.op==12)=false/\(x.op==13)=false/\Mt.bB x q p=(q+1==p)):=by
 unfold Mt.bB;by_cases h1:x.op=2
 ·cases h:(x.x==p) <;> simp[h1,h]
 by_cases h2:x.op=3
 ·simp[h2]
 by_cases h3:x.op=5
 ·simp[h3]
 by_cases h4:x.op=11
 ·simp[h4]
 by_cases h5:x.op=12
 ·simp[h5]
 by_cases h6:x.op=13
 ·simp[h6]
 simp[h1,h2,h3,h4,h5,h6]
theorem zGy(c:List Mt.zTG)(q:Nat)(p:Int)(base:Nat)(v:Value)(w:World)(h:zF w base v c)(hq:q<c.length)(hl:c.length<=300) :
  Calls Tryz.prog 112 #[v,.int .i64 q,.int .i64 p] w λe w'=>e=.returned (.bool (Mt.leads c q p))/\Below w.heap.size w w':=by
 rcases xE h with ⟨rfl,ao,cap,rfl⟩ | ⟨dI,g,cap,rfl,hcap,hg,hgb,hc⟩
 ·simp at hq
 ·have hc0:w.cell? ⟨g,q*4,none⟩=some (.int .i64 (c.getD q Mt.jY).op):=hc q 0 hq (by omega);have hc1:w.cell? ⟨g,q*4+1,none⟩=some (.int .i64 (c.getD q Mt.jY).x):=hc q 1 hq (by omega);have hc2:w.cell? ⟨g,q*4+2,none⟩=some (.int .i64 (c.getD q Mt.jY).y):=hc q 2 hq (by omega);have hc3:w.cell? ⟨g,q*4+3,none⟩=some (.string ⟨(c.getD q Mt.jY).set.toArray⟩):=hc q 3 hq (by omega);clear hc h;have e:Mt.leads c q p=Mt.bB (c.getD q Mt.jY) q p:=rfl;rw[e];clear e;generalize c.getD q Mt.jY=I at *;rcases zGx I q p with ⟨a1,a2,e⟩ | ⟨a1,a2,e⟩ | ⟨a1,a2,e⟩ | ⟨a1,a2,a3,e⟩ | ⟨a1,a2,a3,a4,e⟩ | ⟨a1,a2,a3,a4,a5,e⟩ | ⟨a1,a2,a3,a4,a5,a6,e⟩ | ⟨a1,a2,a3,a4,a5,a6,e⟩
  all_goals
   rw[e];clear e;go_enter Tryz.func112,Tryz.ntmps112
   go_wp2_with fail
   go_ret;exact⟨rfl,by go_grown⟩
theorem zGz(p:Int)(i:Mt.zTG):((i.op==5)=false/\Mt.xG p i=false)\/((i.op==5)=true/\(i.x==p)=false/\Mt.xG p i=false)\/((i.op==5)=true/\(i.x==p)=true/\Mt.xG p i=true):=by
 unfold Mt.xG;simp only[beq_iff_eq,beq_eq_false_iff_ne,decide_eq_true_eq,lJ];omega
theorem zJN(c:List Mt.zTG)(p:Nat)(zB zI:Int)(base:Nat)(v:Value)(w:World)(h:zF w base v c)(hp:p<c.length)(hl:c.length<=300)(hm0:0<=zI)(hm1:zI<=4294967295) :
  Calls Tryz.prog 75 #[v,.int .i64 p,.int .i64 zB,.int .i64 zI] w λe w'=>e=.returned (.bool (Mt.picked c p zB zI))/\Below w.heap.size w w':=by
 have HI:Hid (zF w base v c):=h;rcases xE h with ⟨rfl,ao,cap,rfl⟩ | ⟨dI,g,cap,rfl,hcap,hg,hgb,hc⟩
 ·simp at hp
 ·have HC:Hid (∀k j,k<c.length->j<4->w.cell? ⟨g,k*4+j,none⟩=(kM (c.getD k Mt.jY))[j]?):=hc;clear hc h;cases zRl:(zB==2)
  ·have hp2:¬zB=2:=by simpa using zRl
   have HP:Hid (Mt.picked c p zB zI=if zB=1 then true else if zB=3 then decide (1<Mt.kH c p c.length)else if zB=4 then Mt.zAr zI (p % 32)else false):=by
    show _=_;unfold Mt.picked;rw[if_neg (λx=>hp2 x.1)]
   clear hp2;go_enter Tryz.func75,Tryz.ntmps75
   go_wp2_with fail
   go_loopw [9,10] (λn i wr=>∃k:Nat,k<=c.length/\i=.int .i64 k/\n=.int .i64 (Mt.kH c p k)/\Below w.heap.size w wr) (λ_ i _=>c.length-(intOf i).toNat)
   case atStart=>exact⟨0,Nat.zero_le _,rfl,rfl,Below.refl _ _⟩
   case round =>
    obtain⟨k,hk,rfl,rfl,qV⟩:=hrel;have hsz:=qV.size;have hle:=Mt.zEE c p k;have HN:Hid (Mt.kH c p (k+1)=Mt.kH c p k+if Mt.leads c k p then 1 else 0):=Mt.zCz c p k;have HIr:Hid (zF wr base (.slice (some ⟨g,0,none⟩) c.length cap) c):=HI.out.below qV;by_cases zTI:k<c.length
    ·have HL:Hid (∀b,Mt.leads c k p=b->Calls Tryz.prog 112 #[.slice (some ⟨g,0,none⟩) c.length cap,.int .i64 k,.int .i64 p] wr λe w'=>e=.returned (.bool b)/\Below wr.heap.size wr w'):=λb hb=>by rw[<-hb];exact zGy c k p base _ wr HIr.out zTI hl
     cases hq:Mt.leads c k p
     all_goals
      have HQ:Hid (Mt.leads c k p=_):=hq;clear hq;go_wp2_with fail
      refine(HL.out _ HQ.out).mono ?_;rintro e w1 ⟨rfl,zTH⟩;have hB1:Below w.heap.size w w1:=qV.trans (zTH.mono hsz);clear zTH;go_wp2_with fail
      go_roundw
      case rel=>exact⟨k+1,by omega,by go_num,by first|(rw[HN.out,HQ.out];simp;done)|(rw[HN.out,HQ.out];go_num),hB1⟩
      case measure=>simp[intOf];omega
    ·have hk2:k=c.length:=by omega
     subst hk2;clear HN HIr;cases h1:(zB==1)
     ·cases h3:(zB==3)
      ·cases h4:(zB==4)
       ·go_wp2_with fail
        go_ret;exact⟨jC (by rw[HP.out,if_neg (by simpa using h1),if_neg (by simpa using h3),if_neg (by simpa using h4)]),qV⟩
       ·go_wp2_with fail
        go_ret;exact⟨jC (by rw[HP.out,if_neg (by simpa using h1),if_neg (by simpa using h3),if_pos (by simpa using h4)];rfl),qV⟩
      ·go_wp2_with fail
       go_ret;exact⟨jC (by rw[HP.out,if_neg (by simpa using h1),if_pos (by simpa using h3)];exact decide_eq_decide.2 (by omega)),qV⟩
     ·go_wp2_with fail
      go_ret;exact⟨jC (by rw[HP.out,if_pos (by simpa using h1)]),qV⟩
  ·have hp2:zB=2:=by simpa using zRl
   subst hp2;clear zRl
   have HP:Hid (c.any (Mt.xG p)=false->Mt.picked c p 2 zI=false):=λx=>by
    unfold Mt.picked;rw[if_neg (by rw[x];simp),if_neg (by omega),if_neg (by omega),if_neg (by omega)]
   have HP1:Hid (c.any (Mt.xG p)=true->Mt.picked c p 2 zI=true):=λx=>by
    unfold Mt.picked;rw[if_pos ⟨rfl,x⟩]
   go_enter Tryz.func75,Tryz.ntmps75
   go_wp2_with fail
   go_loopw [9,10] (λn i wr=>∃k m:Nat,k<=c.length/\m<=k/\i=.int .i64 k/\n=.int .i64 m/\Below w.heap.size w wr/\(c.take k).any (Mt.xG p)=false) (λ_ i _=>c.length-(intOf i).toNat)
   case atStart=>exact⟨0,0,Nat.zero_le _,lG _,rfl,rfl,Below.refl _ _,rfl⟩
   case round =>
    obtain⟨k,m,hk,hmk,rfl,rfl,qV,hr⟩:=hrel;have HR:Hid ((c.take k).any (Mt.xG p)=false):=hr;clear hr;have hsz:=qV.size;have HIr:Hid (zF wr base (.slice (some ⟨g,0,none⟩) c.length cap) c):=HI.out.below qV;by_cases zTI:k<c.length
    ·have hc0:wr.cell? ⟨g,k*4,none⟩=some (.int .i64 (c.getD k Mt.jY).op):=(qV.cell (p:=⟨g,k*4,none⟩) hg).trans (HC.out k 0 zTI (by omega));have hc1:wr.cell? ⟨g,k*4+1,none⟩=some (.int .i64 (c.getD k Mt.jY).x):=(qV.cell (p:=⟨g,k*4+1,none⟩) hg).trans (HC.out k 1 zTI (by omega));have HL:Hid (∀b,Mt.leads c k p=b->Calls Tryz.prog 112 #[.slice (some ⟨g,0,none⟩) c.length cap,.int .i64 k,.int .i64 p] wr λe w'=>e=.returned (.bool b)/\Below wr.heap.size wr w'):=λb hb=>by rw[<-hb];exact zGy c k p base _ wr HIr.out zTI hl
     have HN:Hid ((c.take (k+1)).any (Mt.xG p)=((c.take k).any (Mt.xG p)||Mt.xG p (c.getD k Mt.jY))):=Mt.zAQ c _ k zTI
     have HY:Hid (Mt.xG p (c.getD k Mt.jY)=true->c.any (Mt.xG p)=true):=λx=>by
      have:=Mt.wW c (Mt.xG p) k c.length zTI (lG _) x
      rwa [List.take_length]at this
     generalize c.getD k Mt.jY=I at *;rcases zGz p I with ⟨e1,e⟩ | ⟨e1,e2,e⟩ | ⟨e1,e2,e⟩
     ·have HE:Hid ((c.take (k+1)).any (Mt.xG p)=false):=by show _=_;rw[HN.out,HR.out,e];rfl
      clear e HN HR HY;cases hq:Mt.leads c k p
      all_goals
       have HQ:Hid (Mt.leads c k p=_):=hq;clear hq;go_wp2_with fail
       refine(HL.out _ HQ.out).mono ?_;rintro e w1 ⟨rfl,zTH⟩;have hB1:Below w.heap.size w w1:=qV.trans (zTH.mono hsz);clear zTH;go_wp2_with fail
       go_roundw
       case rel=>first | exact⟨k+1,m,by omega,by omega,by go_num,rfl,hB1,HE.out⟩ | exact⟨k+1,m+1,by omega,by omega,by go_num,by go_num,hB1,HE.out⟩
       case measure=>simp[intOf];omega
     ·have HE:Hid ((c.take (k+1)).any (Mt.xG p)=false):=by show _=_;rw[HN.out,HR.out,e];rfl
      clear e HN HR HY;cases hq:Mt.leads c k p
      all_goals
       have HQ:Hid (Mt.leads c k p=_):=hq;clear hq;go_wp2_with fail
       refine(HL.out _ HQ.out).mono ?_;rintro e w1 ⟨rfl,zTH⟩;have hB1:Below w.heap.size w w1:=qV.trans (zTH.mono hsz);clear zTH;go_wp2_with fail
       go_roundw
       case rel=>first | exact⟨k+1,m,by omega,by omega,by go_num,rfl,hB1,HE.out⟩ | exact⟨k+1,m+1,by omega,by omega,by go_num,by go_num,hB1,HE.out⟩
       case measure=>simp[intOf];omega
     ·have HE:Hid (Mt.picked c p 2 zI=true):=HP1.out (HY.out e);clear e HN HR HY HL;go_wp2_with fail
      go_ret;exact⟨jC (by rw[HE.out]),qV⟩
    ·have HE:Hid (Mt.picked c p 2 zI=false):=HP.out (by have:=HR.out;rwa [show k=c.length by omega,List.take_length]at this);clear HR HIr;go_wp2_with fail
     go_ret;exact⟨jC (by rw[HE.out]),qV⟩
def qA(w:World)(base:Nat)(v:Value)(b:List Bool):Prop:=w.ownsRow base 4 1 v b.length (b.map Value.bool)
theorem qA.below{w w':World}{base:Nat}{v:Value}{l:List Bool}(h:qA w base v l)(hb:Below w.heap.size w w'):qA w' base v l:=qH h hb
theorem Tryz.info4:(Tryz.prog.info? 4).map (λi=>(i.zero,i.size,i.bytes))=some (some (.bool false),1,1):=by kernel_rfl
theorem zB9{w:World}{base:Nat}{v:Value}{n:Nat}(h:w.ownsRow base 4 1 v n (madeCells (Value.bool false).cells (n*1)).toList):qA w base v (List.replicate n false):=by
 unfold qA;rw[List.length_replicate,List.map_replicate]
 have e:(madeCells (Value.bool false).cells (n*1)).toList=List.replicate n (Value.bool false):=by
  rw[Nat.mul_one];exact toList_madeCells_one _ _
 rw[e]at h;exact h
def wX(c:List Mt.zTG)(zB zI:Int)(k:Nat):List Bool:=(List.range k).map (Mt.tC c zB zI)++List.replicate (c.length-k) false
theorem zLi(c:List Mt.zTG)(zB zI:Int)(k:Nat)(h:k<=c.length):(wX c zB zI k).length=c.length:=by simp[wX];omega
theorem zJO(c:List Mt.zTG)(zB zI:Int)(k:Nat)(h:k<c.length):wX c zB zI (k+1)=(wX c zB zI k).set k (Mt.tC c zB zI k):=by
 unfold wX;rw[show c.length-k=(c.length-(k+1))+1 by omega,List.replicate_succ,List.set_append_right _ _ (by simp),List.range_succ];simp
theorem zJP(c:List Mt.zTG)(zB zI:Int)(k:Nat)(h:k<c.length)(hc:Mt.tC c zB zI k=false):wX c zB zI (k+1)=wX c zB zI k:=by
 unfold wX;rw[show c.length-k=(c.length-(k+1))+1 by omega,List.replicate_succ,List.range_succ,List.map_append,List.append_assoc];simp[hc]
theorem zNi{c:List Mt.zTG}{k:Nat}(h:k<c.length)(h8:(c.getD k Mt.jY).op=8):Mt.nP c=true:=by
 have:=Mt.wW c (λi=>decide (i.op=8)) k c.length h (lG _) (by simpa using h8)
 rwa [List.take_length]at this
theorem zEG(c:List Mt.zTG)(zB zI:Int)(base:Nat)(v:Value)(w:World)(h:zF w base v c)(hl:c.length<=300)(hm0:0<=zI)(hm1:zI<=4294967295) :
  Calls Tryz.prog 46 #[v,.int .i64 zB,.int .i64 zI] w λe w'=>∃v',e=.returned v'/\qA w' w.heap.size v' (Mt.jD c zB zI)/\Below w.heap.size w w':=by
 obtain⟨i0,hi,hz0,hz1,hz2⟩:=info_parts Tryz.info4;have HI:Hid (zF w base v c):=h;obtain⟨ao,cap,rfl⟩:=wT h;go_enter Tryz.func46,Tryz.ntmps46
 go_wp2_with (first|(at_make;refine wpList_make_full _ rfl (.tmp 11) (.tmp 11) 81 rfl w.heap.size 4 i0 (.bool false) 1 Tryz.underlying81 hi hz0 hz1 .i64 .i64 _ _ c.length rfl rfl rfl rfl (by rw[hz2];omega) (by unfold maxLen;omega) (lG _) ?_;intro w1 hmk hgr;clear h))
 have hB1:Below w.heap.size w w1:=(Below.refl _ _).grown hgr (lG _) (λq hq=>by simp at hq);have HM:Hid (qA w1 w.heap.size (.slice (some ⟨w.heap.size,0,none⟩) c.length c.length) (List.replicate c.length false)):=zB9 hmk;clear hmk hgr
 go_loopw [8] (λi wr=>∃k:Nat,k<=c.length/\i=.int .i64 k/\qA wr w.heap.size (.slice (some ⟨w.heap.size,0,none⟩) c.length c.length) (wX c zB zI k)/\Below w.heap.size w wr/\(c.take k).any (λi=>decide (i.op=8))=false) (λi _=>c.length-(intOf i).toNat)
 case atStart=>exact⟨0,Nat.zero_le _,rfl,HM.out,hB1,rfl⟩
 case round =>
  obtain⟨k,hk,rfl,jS,qV,hr⟩:=hrel;have HR:Hid ((c.take k).any (λi=>decide (i.op=8))=false):=hr;have HO:Hid (qA wr w.heap.size (.slice (some ⟨w.heap.size,0,none⟩) c.length c.length) (wX c zB zI k)):=jS;have hsz:=qV.size;have HIr:Hid (zF wr base (.slice ao c.length cap) c):=HI.out.below qV;clear hr jS HM;by_cases zTI:k<c.length
  ·rcases xE HIr.out with ⟨hn,_⟩ | ⟨dI,g,cap',hv,hcap,hg,hgb,hc⟩
   ·rw[hn]at zTI;simp at zTI
   ·simp only[Value.slice.injEq,true_and]at hv;obtain⟨rfl,rfl⟩:=hv;have hc0:wr.cell? ⟨g,k*4,none⟩=some (.int .i64 (c.getD k Mt.jY).op):=hc k 0 zTI (by omega);have HN:Hid ((c.take (k+1)).any (λi=>decide (i.op=8))=((c.take k).any (λi=>decide (i.op=8))||decide ((c.getD k Mt.jY).op=8))):=Mt.zAQ c _ k zTI;have HB:Hid ((c.getD k Mt.jY).op=8->Mt.nP c=true):=λx=>zNi zTI x
    generalize zSj:(c.getD k Mt.jY).op=o at *;clear zSj hc;cases h8:(o==8)
    ·have HR2:Hid ((c.take (k+1)).any (λi=>decide (i.op=8))=false):=by
      have h8':¬o=8:=by simpa using h8
      show _=_;rw[HN.out,HR.out];simpa using h8'
     clear HN HB HR;have HS:Hid (∀b,Mt.zCQ c k=b->Calls Tryz.prog 74 #[.slice (some ⟨g,0,none⟩) c.length cap,.int .i64 k] wr λe w'=>e=.returned (.bool b)/\wr=w'):=λb hb=>by rw[<-hb];exact zLh c k base _ wr HIr.out zTI hl
     cases hs:Mt.zCQ c k
     ·have HCA:Hid (Mt.tC c zB zI k=Mt.picked c k zB zI):=by show _=_;unfold Mt.tC;rw[hs];rfl
      have HSS:Hid (Mt.zCQ c k=false):=hs;clear hs;have HPK:Hid (Calls Tryz.prog 75 #[.slice (some ⟨g,0,none⟩) c.length cap,.int .i64 k,.int .i64 zB,.int .i64 zI] wr λe w'=>e=.returned (.bool (Mt.picked c k zB zI))/\Below wr.heap.size wr w'):=zJN c k zB zI base _ wr HIr.out zTI hl hm0 hm1;have HNX:Hid (wX c zB zI (k+1)=(wX c zB zI k).set k (Mt.picked c k zB zI)):=by show _=_;rw[zJO c zB zI k zTI,HCA.out]
      clear HCA;go_wp2_with fail
      refine(HS.out _ HSS.out).mono ?_;rintro e w' ⟨rfl,rfl⟩;go_wp2_with fail
      refine HPK.out.mono ?_;rintro e w2 ⟨rfl,zTK⟩;have hB2:Below w.heap.size w w2:=qV.trans (zTK.mono hsz);have HO2:Hid (qA w2 w.heap.size (.slice (some ⟨w.heap.size,0,none⟩) c.length c.length) (wX c zB zI k)):=HO.out.below zTK;have hl2:=zLi c zB zI k hk
      have q1:w2.cell? ⟨w.heap.size,k,none⟩=some (.bool ((wX c zB zI k).getD k false)):=by
       have hx:=HO2.out;unfold qA at hx;rw[hl2]at hx;have:=World.ownsRow.cellAt hx k (by omega);rw[this,List.getElem?_map,lH,lK (by omega)];rfl
      have q2:w2.frozen? ⟨w.heap.size,k,none⟩=false:=by
       have hx:=HO2.out;unfold qA at hx;rw[hl2]at hx;exact World.ownsRow.frozenAt hx k
      have HST:Hid (qA (w2.setCell ⟨w.heap.size,k,none⟩ (.bool (Mt.picked c k zB zI))) w.heap.size (.slice (some ⟨w.heap.size,0,none⟩) c.length c.length) (wX c zB zI (k+1))):=by
       have hx:=HO2.out;unfold qA at hx;rw[hl2]at hx;have hy:=(World.ownsRow.stored hx k (.bool (Mt.picked c k zB zI))).1;show qA _ _ _ _;unfold qA;rw[HNX.out,List.length_set,hl2,List.map_set];exact hy
      clear zTK HO HO2 HIr hl2 HNX HPK HS;generalize (wX c zB zI k).getD k false=old at *;go_wp2_with fail
      go_roundw
      case rel=>exact⟨k+1,by omega,by go_num,HST.out,hB2.setCell (lG _) _,HR2.out⟩
      case measure=>simp[intOf];omega
     ·have HCA:Hid (Mt.tC c zB zI k=false):=by show _=_;unfold Mt.tC;rw[hs];rfl
      have HSS:Hid (Mt.zCQ c k=true):=hs;clear hs
      have HST:Hid (qA wr w.heap.size (.slice (some ⟨w.heap.size,0,none⟩) c.length c.length) (wX c zB zI (k+1))):=by
       show qA _ _ _ _;rw[zJP c zB zI k zTI HCA.out];exact HO.out
      clear HCA HO HIr;go_wp2_with fail
      refine(HS.out _ HSS.out).mono ?_;rintro e w' ⟨rfl,rfl⟩;go_wp2_with fail
      go_roundw
      case rel=>exact⟨k+1,by omega,by go_num,HST.out,qV,HR2.out⟩
      case measure=>simp[intOf];omega
    ·have HE:Hid (Mt.jD c zB zI=List.replicate c.length false):=by
      show _=_;unfold Mt.jD;rw[if_pos (HB.out (by simpa using h8))]
     clear HN HB HR HO HIr;go_wp2_with (first|(at_make;refine wpList_make_full _ rfl (.tmp 26) (.tmp 26) 81 rfl w.heap.size 4 i0 (.bool false) 1 Tryz.underlying81 hi hz0 hz1 .i64 .i64 _ _ c.length rfl rfl rfl rfl (by rw[hz2];omega) (by unfold maxLen;omega) hsz ?_;intro w2 hmk hgr))
     have hB2:Below w.heap.size w w2:=qV.grown hgr hsz (λq hq=>by simp at hq);have HM:Hid (qA w2 w.heap.size (.slice (some ⟨wr.heap.size,0,none⟩) c.length c.length) (List.replicate c.length false)):=zB9 hmk;clear hmk hgr;go_wp2_with fail
     go_ret;exact⟨_,rfl,by rw[HE.out];exact HM.out,hB2⟩
  ·have hk2:k=c.length:=by omega
   subst hk2
   have HE:Hid (Mt.jD c zB zI=wX c zB zI c.length):=by
    have h0:Mt.nP c=false:=by have:=HR.out;rwa [List.take_length]at this
    show _=_;unfold Mt.jD wX;rw[h0];simp
   clear HIr HR;go_wp2_with fail
   go_ret;exact⟨_,rfl,by rw[HE.out];exact HO.out,qV⟩
theorem zDr(zB zI:Int) :
  (decide (0<=zB)=false/\Mt.kF zB zI=false) \/
  (decide (0<=zB)=true/\decide (zB<=4)=false/\Mt.kF zB zI=false) \/
  (decide (0<=zB)=true/\decide (zB<=4)=true/\decide (0<=zI)=false/\Mt.kF zB zI=false) \/
  (decide (0<=zB)=true/\decide (zB<=4)=true/\decide (0<=zI)=true/\decide (zI<=4294967295)=false/\Mt.kF zB zI=false) \/
  (decide (0<=zB)=true/\decide (zB<=4)=true/\decide (0<=zI)=true/\decide (zI<=4294967295)=true/\Mt.kF zB zI=true):=by
 unfold Mt.kF;simp only[decide_eq_true_eq,lJ];omega
theorem zBG(zB zI:Int)(w:World) :
  Calls Tryz.prog 45 #[.int .i64 zB,.int .i64 zI] w λe w'=>e=.returned (.bool (Mt.kF zB zI))/\w=w':=by
 rcases zDr zB zI with ⟨a1,e⟩ | ⟨a1,a2,e⟩ | ⟨a1,a2,a3,e⟩ | ⟨a1,a2,a3,a4,e⟩ | ⟨a1,a2,a3,a4,e⟩
 all_goals
  rw[e];clear e;go_enter Tryz.func45,Tryz.ntmps45
  go_wp2_with fail
  go_ret;exact⟨rfl,rfl⟩
def yO(w:World)(base:Nat)(v:Value)(b:List Int):Prop:=w.ownsRow base 3 1 v b.length (b.map (Value.int .i64))
theorem Tryz.info3:(Tryz.prog.info? 3).map (λi=>(i.zero,i.size,i.bytes))=some (some (.int .i64 0),1,8):=by kernel_rfl
theorem zLj{w:World}{base:Nat}{v:Value}{c:List Bool}(h:qA w base v c):∃ao cap,v=.slice ao c.length cap:=by
 rcases h.2 with ⟨rfl,hn⟩ | ⟨g,cap,cur,rfl,_⟩
 ·exact⟨none,0,by rw[hn]⟩
 ·exact⟨_,_,rfl⟩
theorem zNj{w:World}{base:Nat}{v:Value}{c:List Bool}(h:qA w base v c){k:Nat}(hk:k<c.length):∃g cap,v=.slice (some ⟨g,0,none⟩) c.length cap/\c.length<=cap/\g<w.heap.size/\base<=g/\∀j,j<c.length->w.cell? ⟨g,j,none⟩=some (.bool (c.getD j false)):=by
 rcases h.2 with ⟨rfl,hn⟩ | ⟨g,cap,cur,rfl,hb,hg,h1,h2,h3,h4⟩
 ·omega
 ·refine⟨g,cap,rfl,h1,(lI.1 hg).1,hb,λj hj=>?_⟩;have hc:=World.ownsRow.cellAt (g:=g) (cap:=cap) h j (by omega);rw[hc,List.getElem?_map,lH,lK hj];rfl
theorem zFg(p:ByteArray)(zB zI:Int)(w:World)(hm:p.size<=maxLen) :
  Calls Tryz.prog 24 #[.string p,.int .i64 zB,.int .i64 zI] w λe w'=>∃v,e=.returned (.tuple #[v,.int .i64 (Mt.xL p zB zI).2])/\yO w' w.heap.size v (Mt.xL p zB zI).1/\Below w.heap.size w w':=by
 have KC:Hid (Calls Tryz.prog 19 #[.string p] w λe w'=>∃v,e=.returned (.tuple #[v,.int .i64 (Mt.kC p).2])/\zF w' 0 v (Mt.kC p).1/\Below w.heap.size w w'):=nO p w hm;obtain⟨i0,hi,hz0,hz1,hz2⟩:=info_parts Tryz.info3;have ff:=Mt.bN p;have HD:Hid (Mt.xL p zB zI=if(Mt.kC p).2≠0 then([],(Mt.kC p).2)else if Mt.kF zB zI=false then([],13)else(Mt.kY (Mt.jD (Mt.kC p).1 zB zI) (Mt.kC p).1.length,0)):=rfl;generalize Mt.kC p=K at *;generalize Mt.xL p zB zI=R at *;have hl:=ff.2;clear ff;cases he:(K.2 != 0)
 ·have HD1:Hid (R=if Mt.kF zB zI=false then([],13)else(Mt.kY (Mt.jD K.1 zB zI) K.1.length,0)):=by show _=_;rw[HD.out,if_neg (by simpa using he)]
  clear HD;have KS:Hid (∀b,Mt.kF zB zI=b->∀z,Calls Tryz.prog 45 #[.int .i64 zB,.int .i64 zI] z λe w'=>e=.returned (.bool b)/\z=w'):=λb hb z=>by rw[<-hb];exact zBG zB zI z
  cases hs:Mt.kF zB zI
  ·have HSS:Hid (Mt.kF zB zI=false):=hs;have HR:Hid (R=([],13)):=by show _=_;rw[HD1.out,if_pos hs]
   clear hs HD1;go_enter Tryz.func24,Tryz.ntmps24
   go_wp2_with fail
   refine KC.out.mono ?_;rintro e w1 ⟨v1,rfl,q1,zTH⟩;clear q1;go_wp2_with fail
   refine(KS.out _ HSS.out _).mono ?_;rintro e w' ⟨rfl,rfl⟩;go_wp2_with fail
   go_ret2
   exact⟨_,by rw[HR.out];rfl,by rw[HR.out];exact World.ownsRow_nil _ _ _ _,zTH⟩
  ·have HSS:Hid (Mt.kF zB zI=true):=hs;have HR:Hid (R=(Mt.kY (Mt.jD K.1 zB zI) K.1.length,0)):=by show _=_;rw[HD1.out,hs];rfl
   have hms:0<=zI/\zI<=4294967295:=by unfold Mt.kF at hs;simp at hs;omega
   have hm0:=hms.1;have hm1:=hms.2;clear hs HD1 hms;go_enter Tryz.func24,Tryz.ntmps24
   go_wp2_with fail
   refine KC.out.mono ?_;rintro e w1 ⟨v1,rfl,q1,zTH⟩;have Q1:Hid (zF w1 0 v1 K.1):=q1;have hs1:=zTH.size;clear q1;go_wp2_with fail
   refine(KS.out _ HSS.out _).mono ?_;rintro e w' ⟨rfl,rfl⟩;go_wp2_with fail
   refine(zEG K.1 zB zI 0 v1 _ Q1.out hl hm0 hm1).mono ?_;rintro e w2 ⟨v2,rfl,q2,zTK⟩;have hB2:Below w.heap.size w w2:=zTH.trans (zTK.mono hs1);have Q2:Hid (qA w2 w1.heap.size v2 (Mt.jD K.1 zB zI)):=q2;have hcl:=Mt.zEF K.1 zB zI;generalize hBB:Mt.jD K.1 zB zI=B at *;have HRB:Hid (R=(Mt.kY B B.length,0)):=by show _=_;rw[HR.out,hcl]
   have hbl:B.length<=300:=by omega
   clear hcl hBB HR;obtain⟨ao,cap,rfl⟩:=zLj q2;have hs2:=hB2.size;clear q2 zTK zTH Q1;go_wp2_with fail
   go_loopw [12,13] (λu i wr=>∃k:Nat,k<=B.length/\i=.int .i64 k/\yO wr w2.heap.size u (Mt.kY B k)/\Below w2.heap.size w2 wr) (λ_ i _=>B.length-(intOf i).toNat)
   case atStart=>exact⟨0,Nat.zero_le _,rfl,World.ownsRow_nil _ _ _ _,Below.refl _ _⟩
   case round =>
    obtain⟨k,hk,rfl,jS,zLk⟩:=hrel;have HO:Hid (yO wr w2.heap.size u12 (Mt.kY B k)):=jS;have hsz2:=zLk.size;have hnl:=Mt.zAP B k;clear jS;by_cases zTI:k<B.length
    ·have HN:Hid (Mt.kY B (k+1)=Mt.kY B k++if B.getD k false then[(k:Int)]else[]):=Mt.xK B k;obtain⟨g,cap',hv,hcap,hg,hgb,hc⟩:=zNj Q2.out zTI;simp only[Value.slice.injEq,true_and]at hv;obtain⟨rfl,rfl⟩:=hv;have hc0:wr.cell? ⟨g,k,none⟩=some (.bool (B.getD k false)):=(zLk.cell (p:=⟨g,k,none⟩) hg).trans (hc k zTI);clear hc;generalize B.getD k false=bit at *;cases bit
     ·have HST:Hid (yO wr w2.heap.size u12 (Mt.kY B (k+1))):=by
       show yO _ _ _ _;rw[HN.out];simpa using HO.out
      clear HN HO;go_wp2_with fail
      go_roundw
      case rel=>exact⟨k+1,by omega,by go_num,HST.out,zLk⟩
      case measure=>simp[intOf];omega
     ·go_wp2_with (first|(at_builtin;refine wpList_append_own _ rfl _ _ 51 rfl w2.heap.size 3 i0 _ 1 8 Tryz.underlying51 hi hz0 hz1 hz2 rfl (by decide) _ _ _ rfl (World.ownsRow.alloc HO.out _) ⟨wr.heap.size,0,none⟩ 1 1 [.int .i64 (k:Int)] rfl rfl (xU _ _ _) (by simp[Value.oneCell']) ?_ ?_ ?_ ?_;rotate_right))
      ·intro v' w3 hown' jL _
       have HST:Hid (yO w3 w2.heap.size v' (Mt.kY B (k+1))):=by
        show yO _ _ _ _;rw[HN.out];unfold yO;simpa using hown'
       have R3:Below w2.heap.size w2 w3:=(zLk.alloc hsz2 _).grown jL (by simp;omega) (λq hq'=>(World.ownsRow.lt HO.out q hq').1);clear hown' jL HO HN;go_wp2_with fail
       go_roundw
       case rel=>exact⟨k+1,by omega,by go_num,HST.out,R3⟩
       case measure=>simp[intOf];omega
      ·unfold maxLen;omega
      ·omega
      ·first | omega|(simp;omega)
    ·have hk2:k=B.length:=by omega
     subst hk2;go_wp2_with fail
     go_ret2
     exact⟨_,by rw[HRB.out];rfl,by rw[HRB.out];exact jG HO.out hs2,hB2.trans (zLk.mono hs2)⟩
 ·have HR:Hid (R=([],K.2)):=by show _=_;rw[HD.out,if_pos (by simpa using he)]
  clear HD;go_enter Tryz.func24,Tryz.ntmps24
  go_wp2_with fail
  refine KC.out.mono ?_;rintro e w1 ⟨v1,rfl,q1,zTH⟩;clear q1;go_wp2_with fail
  go_ret2
  exact⟨_,by rw[HR.out];rfl,by rw[HR.out];exact World.ownsRow_nil _ _ _ _,zTH⟩
theorem zFh(c:List Mt.zTG)(va vb:Value)(w:World)(ha:zF w 0 va c)(hb:zF w 0 vb c)(hl:c.length<=300) :
  Calls Tryz.prog 20 #[va,vb] w λe w'=>e=.returned (.bool true)/\∃n,w'=w.drewN n:=by
 rcases xE ha with ⟨rfl,ao,zNk,rfl⟩ | ⟨dI,ga,zNk,rfl,hca,hga,_,hA⟩
 ·rcases xE hb with ⟨_,bo,zP8,rfl⟩ | ⟨dI,_⟩
  ·clear ha hb;go_enter Tryz.func20,Tryz.ntmps20
   go_wp2_with fail
   refine wp_loop_rounds 1 ?_;rw[rounds_succ];go_wp2_with fail
   go_ret;exact⟨rfl,0,rfl⟩
  ·simp at dI
 ·rcases xE hb with ⟨rfl,_⟩ | ⟨_,gb,zP8,rfl,hcb,hgb,_,hB⟩
  ·simp at dI
  ·have HA:Hid (∀k j,k<c.length->j<4->w.cell? ⟨ga,k*4+j,none⟩=(kM (c.getD k Mt.jY))[j]?):=hA;have HB:Hid (∀k j,k<c.length->j<4->w.cell? ⟨gb,k*4+j,none⟩=(kM (c.getD k Mt.jY))[j]?):=hB;clear ha hb hA hB;go_enter Tryz.func20,Tryz.ntmps20
   go_wp2_with fail
   go_loopw [5] (λi wr=>∃k d:Nat,k<=c.length/\i=.int .i64 k/\wr=w.drewN d) (λi _=>c.length-(intOf i).toNat)
   case atStart=>exact⟨0,0,Nat.zero_le _,rfl,rfl⟩
   case round =>
    obtain⟨k,d,hk,rfl,rfl⟩:=hrel;by_cases zTI:k<c.length
    ·have a0:w.cell? ⟨ga,k*4,none⟩=some (.int .i64 (c.getD k Mt.jY).op):=HA.out k 0 zTI (by omega);have a1:w.cell? ⟨ga,k*4+1,none⟩=some (.int .i64 (c.getD k Mt.jY).x):=HA.out k 1 zTI (by omega);have a2:w.cell? ⟨ga,k*4+2,none⟩=some (.int .i64 (c.getD k Mt.jY).y):=HA.out k 2 zTI (by omega);have a3:w.cell? ⟨ga,k*4+3,none⟩=some (.string ⟨(c.getD k Mt.jY).set.toArray⟩):=HA.out k 3 zTI (by omega);have b0:w.cell? ⟨gb,k*4,none⟩=some (.int .i64 (c.getD k Mt.jY).op):=HB.out k 0 zTI (by omega);have b1:w.cell? ⟨gb,k*4+1,none⟩=some (.int .i64 (c.getD k Mt.jY).x):=HB.out k 1 zTI (by omega);have b2:w.cell? ⟨gb,k*4+2,none⟩=some (.int .i64 (c.getD k Mt.jY).y):=HB.out k 2 zTI (by omega);have b3:w.cell? ⟨gb,k*4+3,none⟩=some (.string ⟨(c.getD k Mt.jY).set.toArray⟩):=HB.out k 3 zTI (by omega);generalize c.getD k Mt.jY=I at *;have i0:(0:Int)<=(k:Int):=by omega
     have i1:(k:Int)<(c.length:Int):=by omega
     go_wp2_with fail
     go_quiet (fail)
     go_wp2_with fail
     go_roundw
     case rel=>exact⟨k+1,_,by omega,by go_num,rfl⟩
     case measure=>simp[intOf];omega
    ·go_wp2_with fail
     go_ret;exact⟨rfl,_,rfl⟩
def zGA:Prop:=∀(p:ByteArray) (z:World),p.size<=maxLen->Calls Tryz.prog 18 #[.string p] z λe w'=>∃v,e=.returned (.tuple #[v,.int .i64 (Mt.kC p).2])/\zF w' z.heap.size v (Mt.kC p).1/\Below z.heap.size z w'
theorem zFi{w:World}{base g cap:Nat}{n:Nat}{xs:List Value}(h:w.ownsRow base 48 4 (.slice (some ⟨g,0,none⟩) n cap) n xs)(k:Nat)(hk:k<n*4):(∃u,w.cell? ⟨g,k,none⟩=some u)/\w.frozen? ⟨g,k,none⟩=false/\g<w.heap.size/\base<=g:=by
 have zTI:=World.ownsRow.lt h g rfl;have hl:=h.1;refine⟨?_,World.ownsRow.frozenAt h k,zTI.2,zTI.1⟩;rcases h.2 with ⟨e,_⟩ | ⟨g',cap',cur,hv,hb,hg,h1,h2,h3,h4⟩
 ·simp at e
 ·have:=World.ownsRow.cellAt h k (by omega);rw[this];exact⟨_,lK (by omega)⟩
theorem zJQ(KP:zGA)(o:Stp)(w:World)(hp:o.p.size<=maxLen) :
  Calls Tryz.prog 9 #[opV o] w λe w'=>e=.returned (.bool true)/\Below w.heap.size w w':=by
 have KC:Hid (∀z:World,Calls Tryz.prog 18 #[.string o.p] z λe w'=>∃v,e=.returned (.tuple #[v,.int .i64 (Mt.kC o.p).2])/\zF w' z.heap.size v (Mt.kC o.p).1/\Below z.heap.size z w'):=λz=>KP o.p z hp
 have KR:Hid (∀z:World,Calls Tryz.prog 19 #[.string o.p] z λe w'=>∃v,e=.returned (.tuple #[v,.int .i64 (Mt.kC o.p).2])/\zF w' 0 v (Mt.kC o.p).1/\Below z.heap.size z w'):=λz=>nO o.p z hp
 have hl:=(Mt.bN o.p).2;generalize Mt.kC o.p=C at *;unfold opV opA;go_enter Tryz.func9,Tryz.ntmps9
 go_wp2_with fail
 refine(KC.out _).mono ?_;rintro e w1 ⟨v1,rfl,q1,zTH⟩;have hs1:=zTH.size;have y1:w1.cell? ⟨w.heap.size,1,none⟩=some (.string o.p):=(zC ((zTH.block _ (by simp)).trans (heap_alloc_new _ _))).1 1;have l1:w.heap.size<w1.heap.size:=by simp at hs1;omega
 have hB1:Below w.heap.size w w1:=((Below.refl _ _).alloc (lG _) _).trans (zTH.mono (by simp))
 have Q1:Hid (zF w1 (w.heap.size+1) v1 C.1):=by
  have:(w.alloc (.cells #[.int .i64 o.kind,.string o.p,.string o.t,.int .i64 o.zTE,.int .i64 o.zB,.int .i64 o.zI,.int .i64 o.zD,.int .i64 o.zA] 26)).heap.size=w.heap.size+1:=by simp
  show zF _ _ _ _;rw[<-this];exact q1
 clear q1 zTH hs1;go_wp2_with fail
 refine(KR.out _).mono ?_;rintro e w2 ⟨v2,rfl,q2,zTK⟩;have hs2:=zTK.size;have Q2:Hid (zF w2 (w.heap.size+1) v1 C.1):=Q1.out.below zTK;have QR:Hid (zF w2 0 v2 C.1):=q2;have hB2:Below w.heap.size w w2:=hB1.trans (zTK.mono (by omega));clear q2 zTK hB1 y1 Q1;go_wp2_with fail
 refine(zFh C.1 v1 v2 w2 (Q2.out.base (Nat.zero_le _)) QR.out hl).mono ?_;rintro e w3 ⟨rfl,n3,rfl⟩;have Q3:Hid (zF (w2.drewN n3) (w.heap.size+1) v1 C.1):=Q2.out.below (below_drewN (Below.refl _ _) n3);have hB3:Below w.heap.size w (w2.drewN n3):=below_drewN hB2 n3;generalize w2.drewN n3=w3 at *;clear Q2 QR hB2;rcases xE Q3.out with ⟨e0,ao,zNk,rfl⟩ | ⟨dI,g,cap,rfl,hca,hg,hgb,_⟩
 ·go_wp2_with fail
  refine wp_loop_rounds 1 ?_;rw[rounds_succ];go_wp2_with fail
  go_ret;exact⟨jC (by simp),hB3⟩
 ·go_wp2_with fail
  go_loopw [8] (λi wr=>∃(k:Nat) (xs:List Value),k<=C.1.length/\i=.int .i64 k/\wr.ownsRow (w.heap.size+1) 48 4 (.slice (some ⟨g,0,none⟩) C.1.length cap) C.1.length xs/\Below w.heap.size w wr) (λi _=>C.1.length-(intOf i).toNat)
  case atStart=>exact⟨0,_,Nat.zero_le _,rfl,Q3.out,hB3⟩
  case round =>
   obtain⟨k,xs,hk,rfl,jS,hbr⟩:=hrel;by_cases zTI:k<C.1.length
   ·obtain⟨⟨u0,a0⟩,z0,lg,lb⟩:=zFi jS (k*4) (by omega);obtain⟨⟨u1,a1⟩,z1,_,_⟩:=zFi jS (k*4+1) (by omega);obtain⟨⟨u2,a2⟩,z2,_,_⟩:=zFi jS (k*4+2) (by omega);obtain⟨⟨u3,a3⟩,z3,_,_⟩:=zFi jS (k*4+3) (by omega);have h1:=(World.ownsRow.stored jS (k*4) (.int .i64 0)).1;have h2:=(World.ownsRow.stored h1 (k*4+1) (.int .i64 0)).1;have h3:=(World.ownsRow.stored h2 (k*4+2) (.int .i64 0)).1;have h4:=(World.ownsRow.stored h3 (k*4+3) (.string ⟨#[]⟩)).1;have HO:Hid _:=h4;have HBB:Hid (Below w.heap.size w wr):=hbr;have i0:(0:Int)<=(k:Int):=by omega
    have i1:(k:Int)<(C.1.length:Int):=by omega
    clear h1 h2 h3 h4 jS hbr;go_wp2_with fail
    go_roundw
    case rel=>exact⟨k+1,_,by omega,by go_num,HO.out,(((HBB.out.setCell (p:=⟨g,k*4,none⟩) (by show w.heap.size<=g;omega) _).setCell (p:=⟨g,k*4+1,none⟩) (by show w.heap.size<=g;omega) _).setCell (p:=⟨g,k*4+2,none⟩) (by show w.heap.size<=g;omega) _).setCell (p:=⟨g,k*4+3,none⟩) (by show w.heap.size<=g;omega) _⟩
    case measure=>simp[intOf];omega
   ·go_wp2_with fail
    go_ret;exact⟨jC (by simp),hbr⟩
def zHU:Prop:=∀(p:ByteArray) (z:World),p.size<=maxLen->Calls Tryz.prog 10 #[.string p] z λe w'=>e=.returned (.tuple #[.int .i64 (Mt.cB p).1,.int .i64 (Mt.cB p).2])/\Below z.heap.size z w'
theorem zJR(KP:zGA)(o:Stp)(w:World)(hp:o.p.size<=maxLen)(k1:(o.kind==1)=false)(k2:(o.kind==2)=true) :
  Calls Tryz.prog 6 #[opV o] w λe w'=>e=.returned (.bool true)/\Below w.heap.size w w':=by
 have K1:Hid (∀z:World,Calls Tryz.prog 9 #[opV o] z λe w'=>e=.returned (.bool true)/\Below z.heap.size z w'):=λz=>zJQ KP o z hp
 unfold opV opA at *;go_enter Tryz.func6,Tryz.ntmps6
 go_wp2_with fail
 refine(K1.out _).mono ?_;rintro e w1 ⟨rfl,zTH⟩;have hB1:Below w.heap.size w w1:=((Below.refl _ _).alloc (lG _) _).trans (zTH.mono (by simp));clear zTH;go_wp2_with fail
 go_ret;exact⟨rfl,hB1⟩
theorem zGB(KP:zHU)(o:Stp)(w:World)(hp:o.p.size<=maxLen)(k1:(o.kind==1)=false)(k2:(o.kind==2)=false)(k3:(o.kind==3)=true) :
  Calls Tryz.prog 6 #[opV o] w λe w'=>e=.returned (.bool true)/\Below w.heap.size w w':=by
 have K1:Hid (∀z:World,Calls Tryz.prog 10 #[.string o.p] z λe w'=>e=.returned (.tuple #[.int .i64 (Mt.cB o.p).1,.int .i64 (Mt.cB o.p).2])/\Below z.heap.size z w'):=λz=>KP o.p z hp
 have K2:Hid (∀z:World,Calls Tryz.prog 11 #[.string o.p] z λe w'=>e=.returned (.tuple #[.int .i64 (Mt.cB o.p).1,.int .i64 (Mt.cB o.p).2])/\Below z.heap.size z w'):=λz=>zFf o.p z hp
 generalize Mt.cB o.p=C at *;unfold opV opA;go_enter Tryz.func6,Tryz.ntmps6
 go_wp2_with fail
 refine(K1.out _).mono ?_;rintro e w1 ⟨rfl,zTH⟩;have hs1:=zTH.size;have y1:w1.cell? ⟨w.heap.size,1,none⟩=some (.string o.p):=(zC ((zTH.block _ (by simp)).trans (heap_alloc_new _ _))).1 1;have l1:w.heap.size<w1.heap.size:=by simp at hs1;omega
 have hB1:Below w.heap.size w w1:=((Below.refl _ _).alloc (lG _) _).trans (zTH.mono (by simp));clear zTH hs1;go_wp2_with fail
 refine(K2.out _).mono ?_;rintro e w2 ⟨rfl,zTK⟩;have hB2:Below w.heap.size w w2:=hB1.trans (zTK.mono (by omega));clear zTK;go_wp2_with fail
 go_ret;exact⟨jC (by simp),hB2⟩
theorem zLl{w:World}{g cap:Nat}{c:List Int}(h:yO w 0 (.slice (some ⟨g,0,none⟩) c.length cap) c):c.length<=cap/\g<w.heap.size/\(∀j,j<c.length->w.cell? ⟨g,j,none⟩=some (.int .i64 (c.getD j 0))):=by
 rcases h.2 with ⟨hv,_⟩ | ⟨g',cap',cur,hv,hb,hg,h1,h2,h3,h4⟩
 ·simp at hv
 ·simp only[Value.slice.injEq,Option.some.injEq,Addr.mk.injEq,and_true,true_and]at hv;obtain⟨rfl,rfl⟩:=hv;refine⟨h1,(lI.1 hg).1,λj hj=>?_⟩;have hc:=World.ownsRow.cellAt h j (by omega);rw[hc,List.getElem?_map,lH,lK hj];rfl
theorem zAR{w:World}{base:Nat}{v:Value}{l:List Int}(h:yO w base v l) :
  (l=[]/\∃ao cap,v=.slice ao 0 cap)\/(0<l.length/\∃g cap,v=.slice (some ⟨g,0,none⟩) l.length cap/\l.length<=cap/\g<w.heap.size/\∀k,k<l.length->w.cell? ⟨g,k,none⟩=some (.int .i64 (l.getD k 0))):=by
 by_cases h0:l=[]
 ·left;subst h0;refine⟨rfl,?_⟩;rcases h.2 with ⟨rfl,_⟩ | ⟨g,cap,cur,rfl,_⟩
  ·exact⟨_,_,rfl⟩
  ·exact⟨_,_,rfl⟩
 ·right;have hp:0<l.length:=List.length_pos_iff.2 h0;refine⟨hp,?_⟩;have hh:=jG h (Nat.zero_le _);rcases h.2 with ⟨rfl,hn⟩ | ⟨g,cap,cur,rfl,hb,hg,h1,h2,h3,h4⟩
  ·omega
  ·have:=zLl hh;exact⟨g,cap,rfl,this.1,this.2.1,this.2.2⟩
theorem zFj(c:List Int)(va vb:Value)(w:World)(ha:yO w 0 va c)(hb:yO w 0 vb c)(hl:c.length<=300) :
  Calls Tryz.prog 25 #[va,vb] w λe w'=>e=.returned (.bool true)/\∃n,w'=w.drewN n:=by
 rcases zAR ha with ⟨rfl,ao,zNk,rfl⟩ | ⟨dI,ga,zNk,rfl,hca,hga,hA⟩
 ·rcases zAR hb with ⟨_,bo,zP8,rfl⟩ | ⟨dI,_⟩
  ·clear ha hb;go_enter Tryz.func25,Tryz.ntmps25
   go_wp2_with fail
   refine wp_loop_rounds 1 ?_;rw[rounds_succ];go_wp2_with fail
   go_ret;exact⟨rfl,0,rfl⟩
  ·simp at dI
 ·rcases zAR hb with ⟨rfl,_⟩ | ⟨_,gb,zP8,rfl,hcb,hgb,hB⟩
  ·simp at dI
  ·have HA:Hid (∀k,k<c.length->w.cell? ⟨ga,k,none⟩=some (.int .i64 (c.getD k 0))):=hA;have HB:Hid (∀k,k<c.length->w.cell? ⟨gb,k,none⟩=some (.int .i64 (c.getD k 0))):=hB;clear ha hb hA hB;go_enter Tryz.func25,Tryz.ntmps25
   go_wp2_with fail
   go_loopw [5] (λi wr=>∃k d:Nat,k<=c.length/\i=.int .i64 k/\wr=w.drewN d) (λi _=>c.length-(intOf i).toNat)
   case atStart=>exact⟨0,0,Nat.zero_le _,rfl,rfl⟩
   case round =>
    obtain⟨k,d,hk,rfl,rfl⟩:=hrel;by_cases zTI:k<c.length
    ·have a0:=HA.out k zTI;have b0:=HB.out k zTI;generalize c.getD k 0=I at *;have i0:(0:Int)<=(k:Int):=by omega
     have i1:(k:Int)<(c.length:Int):=by omega
     go_wp2_with fail
     go_quiet (fail)
     go_wp2_with fail
     go_roundw
     case rel=>exact⟨k+1,_,by omega,by go_num,rfl⟩
     case measure=>simp[intOf];omega
    ·go_wp2_with fail
     go_ret;exact⟨rfl,_,rfl⟩
def zDs:Prop:=∀(p:ByteArray) (zB zI:Int) (z:World),p.size<=maxLen->Calls Tryz.prog 23 #[.string p,.int .i64 zB,.int .i64 zI] z λe w'=>∃v,e=.returned (.tuple #[v,.int .i64 (Mt.xL p zB zI).2])/\yO w' z.heap.size v (Mt.xL p zB zI).1/\Below z.heap.size z w'
theorem zHV(p:ByteArray)(zB zI:Int):(Mt.xL p zB zI).1.length<=300:=by
 have h1:=(Mt.bN p).2;unfold Mt.xL;split
 ·simp
 split
 ·simp
 ·exact Nat.le_trans (Mt.zAP _ _) h1
theorem zNl{w:World}{base g cap:Nat}{n:Nat}{xs:List Value}(h:w.ownsRow base 3 1 (.slice (some ⟨g,0,none⟩) n cap) n xs)(k:Nat)(hk:k<n):(∃u,w.cell? ⟨g,k,none⟩=some u)/\w.frozen? ⟨g,k,none⟩=false/\g<w.heap.size/\base<=g:=by
 have zTI:=World.ownsRow.lt h g rfl;have hl:=h.1;refine⟨?_,World.ownsRow.frozenAt h k,zTI.2,zTI.1⟩;have:=World.ownsRow.cellAt h k (by omega);rw[this];exact⟨_,lK (by omega)⟩
theorem zJS(KP:zDs)(o:Stp)(w:World)(hp:o.p.size<=maxLen) :
  Calls Tryz.prog 12 #[opV o] w λe w'=>e=.returned (.bool true)/\Below w.heap.size w w':=by
 have KC:Hid (∀z:World,Calls Tryz.prog 23 #[.string o.p,.int .i64 o.zB,.int .i64 o.zI] z λe w'=>∃v,e=.returned (.tuple #[v,.int .i64 (Mt.xL o.p o.zB o.zI).2])/\yO w' z.heap.size v (Mt.xL o.p o.zB o.zI).1/\Below z.heap.size z w'):=λz=>KP o.p o.zB o.zI z hp
 have KR:Hid (∀z:World,Calls Tryz.prog 24 #[.string o.p,.int .i64 o.zB,.int .i64 o.zI] z λe w'=>∃v,e=.returned (.tuple #[v,.int .i64 (Mt.xL o.p o.zB o.zI).2])/\yO w' z.heap.size v (Mt.xL o.p o.zB o.zI).1/\Below z.heap.size z w'):=λz=>zFg o.p o.zB o.zI z hp
 have hl:=zHV o.p o.zB o.zI;generalize Mt.xL o.p o.zB o.zI=C at *;unfold opV opA;go_enter Tryz.func12,Tryz.ntmps12
 go_wp2_with fail
 refine(KC.out _).mono ?_;rintro e w1 ⟨v1,rfl,q1,zTH⟩;have hs1:=zTH.size;have yy:=(zC ((zTH.block _ (by simp)).trans (heap_alloc_new _ _))).1;have y1:w1.cell? ⟨w.heap.size,1,none⟩=some (.string o.p):=yy 1;have y4:w1.cell? ⟨w.heap.size,4,none⟩=some (.int .i64 o.zB):=yy 4;have y5:w1.cell? ⟨w.heap.size,5,none⟩=some (.int .i64 o.zI):=yy 5;clear yy;have l1:w.heap.size<w1.heap.size:=by simp at hs1;omega
 have hB1:Below w.heap.size w w1:=((Below.refl _ _).alloc (lG _) _).trans (zTH.mono (by simp))
 have Q1:Hid (yO w1 (w.heap.size+1) v1 C.1):=by
  have:(w.alloc (.cells #[.int .i64 o.kind,.string o.p,.string o.t,.int .i64 o.zTE,.int .i64 o.zB,.int .i64 o.zI,.int .i64 o.zD,.int .i64 o.zA] 26)).heap.size=w.heap.size+1:=by simp
  show yO _ _ _ _;rw[<-this];exact q1
 clear q1 zTH hs1;go_wp2_with fail
 refine(KR.out _).mono ?_;rintro e w2 ⟨v2,rfl,q2,zTK⟩;have hs2:=zTK.size;have Q2:Hid (yO w2 (w.heap.size+1) v1 C.1):=qH Q1.out zTK;have QR:Hid (yO w2 0 v2 C.1):=jG q2 (Nat.zero_le _);have hB2:Below w.heap.size w w2:=hB1.trans (zTK.mono (by omega));clear q2 zTK hB1 y1 y4 y5 Q1;go_wp2_with fail
 refine(zFj C.1 v1 v2 w2 (jG Q2.out (Nat.zero_le _)) QR.out hl).mono ?_;rintro e w3 ⟨rfl,n3,rfl⟩;have Q3:Hid (yO (w2.drewN n3) (w.heap.size+1) v1 C.1):=qH Q2.out (below_drewN (Below.refl _ _) n3);have hB3:Below w.heap.size w (w2.drewN n3):=below_drewN hB2 n3;generalize w2.drewN n3=w3 at *;clear Q2 QR hB2;rcases zAR Q3.out with ⟨e0,ao,zNk,rfl⟩ | ⟨dI,g,cap,rfl,hca,hg,_⟩
 ·go_wp2_with fail
  refine wp_loop_rounds 1 ?_;rw[rounds_succ];go_wp2_with fail
  go_ret;exact⟨jC (by simp),hB3⟩
 ·go_wp2_with fail
  go_loopw [8] (λi wr=>∃(k:Nat) (xs:List Value),k<=C.1.length/\i=.int .i64 k/\wr.ownsRow (w.heap.size+1) 3 1 (.slice (some ⟨g,0,none⟩) C.1.length cap) C.1.length xs/\Below w.heap.size w wr) (λi _=>C.1.length-(intOf i).toNat)
  case atStart=>exact⟨0,_,Nat.zero_le _,rfl,Q3.out,hB3⟩
  case round =>
   obtain⟨k,xs,hk,rfl,jS,hbr⟩:=hrel;by_cases zTI:k<C.1.length
   ·obtain⟨⟨u0,a0⟩,z0,lg,lb⟩:=zNl jS k zTI;have h1:=(World.ownsRow.stored jS k (.int .i64 (-7))).1;have HO:Hid _:=h1;have HBB:Hid (Below w.heap.size w wr):=hbr;have i0:(0:Int)<=(k:Int):=by omega
    have i1:(k:Int)<(C.1.length:Int):=by omega
    clear h1 jS hbr;go_wp2_with fail
    go_roundw
    case rel=>exact⟨k+1,_,by omega,by go_num,HO.out,HBB.out.setCell (p:=⟨g,k,none⟩) (by show w.heap.size<=g;omega) _⟩
    case measure=>simp[intOf];omega
   ·go_wp2_with fail
    go_ret;exact⟨jC (by simp),hbr⟩
theorem zGC(KP:zDs)(o:Stp)(w:World)(hp:o.p.size<=maxLen)(k1:(o.kind==1)=false)(k2:(o.kind==2)=false)(k3:(o.kind==3)=false)(k4:(o.kind==4)=true) :
  Calls Tryz.prog 6 #[opV o] w λe w'=>e=.returned (.bool true)/\Below w.heap.size w w':=by
 have K1:Hid (∀z:World,Calls Tryz.prog 12 #[opV o] z λe w'=>e=.returned (.bool true)/\Below z.heap.size z w'):=λz=>zJS KP o z hp
 unfold opV opA at *;go_enter Tryz.func6,Tryz.ntmps6
 go_wp2_with fail
 refine(K1.out _).mono ?_;rintro e w1 ⟨rfl,zTH⟩;have hB1:Below w.heap.size w w1:=((Below.refl _ _).alloc (lG _) _).trans (zTH.mono (by simp));clear zTH;go_wp2_with fail
 go_ret;exact⟨rfl,hB1⟩
