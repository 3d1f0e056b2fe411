import Derived.Test.YtebpgfodelggoabGreatKC04
import Derived.Test.YtebpgfodelggoabGreatKC05
import Derived.Test.YtebpgfodelggoabGreatKC02
import Derived.Test.YtebpgfodelggoabGreatKC01
import Derived.Deep.RegionWith
import Derived.Deep.DrawnRows
import Derived.Deep.QuietTactic
import Derived.BigQuiet
import Derived.Test.YtebpgfodelggoabGreatKC00
set_option linter.unusedVariables false
set_option linter.unusedSimpArgs false
set_option maxRecDepth 100000
set_option maxHeartbeats 6000000
namespace Go.Proofs.YtebpgfodelggoabGreat
open Go.RowKit
theorem zK2{l:List Mt.zTD}(hl:Mt.bM l)(f tag a b:Nat)(d:Int)(h0:0<=d)(h1:d+f<=1000):((Mt.gen l f tag a b d).length:Int)<=10000000:=by
 have:=(Mt.zHL l hl f tag a b d h0 h1).1;omega
theorem zQn{t:Mt.zTD}{x y:List Mt.zTG}{d:Int}(hm:t.m<0)(hn:0<t.n)(hp:(t.zTF==2)=false):zEl t x y d=Mt.zO (Mt.zH x t.n.toNat []) (Mt.pG y d (t.zTF==1)):=by
 have hp':¬t.zTF=2:=by simpa using hp
 simp only[zEl];rw[if_neg hp',if_pos hm,if_pos (Or.inl hn),if_neg (by omega)];rfl
theorem zO0{t:Mt.zTD}{x y:List Mt.zTG}{d:Int}(hm:t.m<0)(hn:0<t.n)(hp:(t.zTF==2)=true):zEl t x y d=Mt.alone 0 (Mt.zO (Mt.zH x t.n.toNat []) (Mt.pG y d (t.zTF==1))):=by
 have hp':t.zTF=2:=by simpa using hp
 simp only[zEl];rw[if_pos hp',if_pos hm,if_pos (Or.inl hn),if_neg (by omega)];rfl
theorem zQo{t:Mt.zTD}{x y:List Mt.zTG}{d:Int}(hm:t.m<0)(hn:t.n<=0)(hp:(t.zTF==2)=false):zEl t x y d=Mt.zO [] (Mt.pG y d (t.zTF==1)):=by
 have hp':¬t.zTF=2:=by simpa using hp
 simp only[zEl];rw[if_neg hp',if_pos hm,if_neg (by omega)];rfl
theorem zO1{t:Mt.zTD}{x y:List Mt.zTG}{d:Int}(hm:t.m<0)(hn:t.n<=0)(hp:(t.zTF==2)=true):zEl t x y d=Mt.alone 0 (Mt.zO [] (Mt.pG y d (t.zTF==1))):=by
 have hp':t.zTF=2:=by simpa using hp
 simp only[zEl];rw[if_pos hp',if_pos hm,if_neg (by omega)];rfl
theorem zQp{t:Mt.zTD}{x y:List Mt.zTG}{d:Int}(hm:¬t.m<0)(hm0:t.m<=0)(hn:t.n<=0)(hp:(t.zTF==2)=false):zEl t x y d=[]:=by
 have hp':¬t.zTF=2:=by simpa using hp
 simp only[zEl];rw[if_neg hp',if_neg hm,if_neg (by omega)]
theorem zO2{t:Mt.zTD}{x y:List Mt.zTG}{d:Int}(hm:¬t.m<0)(hm0:t.m<=0)(hn:t.n<=0)(hp:(t.zTF==2)=true):zEl t x y d=Mt.alone 0 []:=by
 have hp':t.zTF=2:=by simpa using hp
 simp only[zEl];rw[if_pos hp',if_neg hm,if_neg (by omega)]
theorem zOG{t:Mt.zTD}{x y:List Mt.zTG}{d:Int}(hm:¬t.m<0)(h:0<t.n\/0<t.m)(hmn:t.n<t.m)(hp:(t.zTF==2)=false):zEl t x y d=Mt.zO (Mt.zH x t.n.toNat []) (Mt.upTo x (t.m-t.n).toNat (t.zTF==1)):=by
 have hp':¬t.zTF=2:=by simpa using hp
 simp only[zEl];rw[if_neg hp',if_neg hm,if_pos h,if_pos hmn];rfl
theorem zK3{t:Mt.zTD}{x y:List Mt.zTG}{d:Int}(hm:¬t.m<0)(h:0<t.n\/0<t.m)(hmn:t.n<t.m)(hp:(t.zTF==2)=true):zEl t x y d=Mt.alone 0 (Mt.zO (Mt.zH x t.n.toNat []) (Mt.upTo x (t.m-t.n).toNat (t.zTF==1))):=by
 have hp':t.zTF=2:=by simpa using hp
 simp only[zEl];rw[if_pos hp',if_neg hm,if_pos h,if_pos hmn];rfl
theorem zQq{t:Mt.zTD}{x y:List Mt.zTG}{d:Int}(hm:¬t.m<0)(hn:0<t.n)(hmn:¬t.n<t.m)(hp:(t.zTF==2)=false):zEl t x y d=Mt.zH x t.n.toNat []:=by
 have hp':¬t.zTF=2:=by simpa using hp
 simp only[zEl];rw[if_neg hp',if_neg hm,if_pos (Or.inl hn),if_neg hmn]
theorem zO3{t:Mt.zTD}{x y:List Mt.zTG}{d:Int}(hm:¬t.m<0)(hn:0<t.n)(hmn:¬t.n<t.m)(hp:(t.zTF==2)=true):zEl t x y d=Mt.alone 0 (Mt.zH x t.n.toNat []):=by
 have hp':t.zTF=2:=by simpa using hp
 simp only[zEl];rw[if_pos hp',if_neg hm,if_pos (Or.inl hn),if_neg hmn]
theorem zFb(l:List Mt.zTD)(hl:l.length<=64)(ho:Mt.bM l)(f:Nat)(h2:S2 l f):S3 l (f+1):=by
 intro a b ai bi d v w hai hbi ht ha hab hb h8 hf hd0 hd1;subst hai hbi;rw[zHM];have fx:=zBE ho f 2 a b d hd0 (by omega);have fy:=zBE ho f 2 a b (d+1) (by omega) (by omega);have lx:=zK2 ho f 2 a b d hd0 (by omega);have ly:=zK2 ho f 2 a b (d+1) (by omega) (by omega);have tk:=Mt.zC1 ho b;have h8':(l.getD b Mt.jZ).kind=8:=h8;have KX:=λz hz=>h2 a b a b d v z rfl rfl hz ha hab (by omega) (by omega) hd0 (by omega)
 have KY:=λz hz=>h2 a b a b (d+1) v z rfl rfl hz ha hab (by omega) (by omega) (by omega) (by omega)
 obtain⟨g,cap,rfl,hcap,hg,c0,c1,c2,c3,c4,c5,c6⟩:=zOF ht hb;generalize Mt.gen l f 2 a b d=x at *;generalize Mt.gen l f 2 a b (d+1)=y at *;generalize l.getD b Mt.jZ=t at *;obtain⟨t1,t2,t3,t4,t5,t6,t7⟩:=tk;have t2':=t7 h8';have dn:∀p:Prop,[Decidable p]->¬p->decide p=false:=λp _ h=>by simpa using h
 have dy:∀p:Prop,[Decidable p]->p->decide p=true:=λp _ h=>by simpa using h
 cases hp:(t.zTF==2)
 ·by_cases hm:t.m<0
  ·by_cases hn:0<t.n
   ·rw[zQn hm hn hp];exact zF7 l hl a b d t x y g cap w hb hab hcap hg hd0 (by omega) ht KX KY fx fy lx ly c0 c1 c2 c3 c4 c5 c6 t1 t2' t3 t4 t5 t6 hm hn (dy _ hn) hp
   ·rw[zQo hm (by omega) hp];exact zSf l hl a b d t x y g cap w hb hab hcap hg hd0 (by omega) ht KX KY fx fy lx ly c0 c1 c2 c3 c4 c5 c6 t1 t2' t3 t4 t5 t6 hm (by omega) (dn _ hn) (dn _ (by omega)) hp
  ·by_cases hn:0<t.n
   ·by_cases hmn:t.n<t.m
    ·rw[zOG hm (Or.inl hn) hmn hp];exact zSg l hl a b d t x y g cap w hb hab hcap hg hd0 (by omega) ht KX KY fx fy lx ly c0 c1 c2 c3 c4 c5 c6 t1 t2' t3 t4 t5 t6 hm hmn (dy _ hn) hp
    ·rw[zQq hm hn hmn hp];exact zSi l hl a b d t x y g cap w hb hab hcap hg hd0 (by omega) ht KX KY fx fy lx ly c0 c1 c2 c3 c4 c5 c6 t1 t2' t3 t4 t5 t6 hm hmn hn (dy _ hn) hp
   ·by_cases hm0:0<t.m
    ·rw[zOG hm (Or.inr hm0) (by omega) hp];exact zSh l hl a b d t x y g cap w hb hab hcap hg hd0 (by omega) ht KX KY fx fy lx ly c0 c1 c2 c3 c4 c5 c6 t1 t2' t3 t4 t5 t6 hm (by omega) (dn _ hn) (dy _ hm0) hp
    ·rw[zQp hm (by omega) (by omega) hp];exact zRe l hl a b d t x y g cap w hb hab hcap hg hd0 (by omega) ht KX KY fx fy lx ly c0 c1 c2 c3 c4 c5 c6 t1 t2' t3 t4 t5 t6 hm (by omega) (dn _ hn) (dn _ hm0) hp
 ·by_cases hm:t.m<0
  ·by_cases hn:0<t.n
   ·rw[zO0 hm hn hp];exact zRf l hl a b d t x y g cap w hb hab hcap hg hd0 (by omega) ht KX KY fx fy lx ly c0 c1 c2 c3 c4 c5 c6 t1 t2' t3 t4 t5 t6 hm hn (dy _ hn) hp
   ·rw[zO1 hm (by omega) hp];exact zRg l hl a b d t x y g cap w hb hab hcap hg hd0 (by omega) ht KX KY fx fy lx ly c0 c1 c2 c3 c4 c5 c6 t1 t2' t3 t4 t5 t6 hm (by omega) (dn _ hn) (dn _ (by omega)) hp
  ·by_cases hn:0<t.n
   ·by_cases hmn:t.n<t.m
    ·rw[zK3 hm (Or.inl hn) hmn hp];exact zRh l hl a b d t x y g cap w hb hab hcap hg hd0 (by omega) ht KX KY fx fy lx ly c0 c1 c2 c3 c4 c5 c6 t1 t2' t3 t4 t5 t6 hm hmn (dy _ hn) hp
    ·rw[zO3 hm hn hmn hp];exact zRj l hl a b d t x y g cap w hb hab hcap hg hd0 (by omega) ht KX KY fx fy lx ly c0 c1 c2 c3 c4 c5 c6 t1 t2' t3 t4 t5 t6 hm hmn hn (dy _ hn) hp
   ·by_cases hm0:0<t.m
    ·rw[zK3 hm (Or.inr hm0) (by omega) hp];exact zRi l hl a b d t x y g cap w hb hab hcap hg hd0 (by omega) ht KX KY fx fy lx ly c0 c1 c2 c3 c4 c5 c6 t1 t2' t3 t4 t5 t6 hm (by omega) (dn _ hn) (dy _ hm0) hp
    ·rw[zO2 hm (by omega) (by omega) hp];exact zQl l hl a b d t x y g cap w hb hab hcap hg hd0 (by omega) ht KX KY fx fy lx ly c0 c1 c2 c3 c4 c5 c6 t1 t2' t3 t4 t5 t6 hm (by omega) (dn _ hn) (dn _ hm0) hp
theorem zK4(l:List Mt.zTD)(hl:l.length<=64)(ho:Mt.bM l):∀f,S0 l f/\S1 l f/\S2 l f/\S3 l f:=by
 intro f;induction f with
 | zero =>
  refine⟨?_,?_,?_,?_⟩
  ·intro a b ai bi d v w h1 h2 h3 h4 h5 h6;omega
  ·intro a b ai bi d v w h1 h2 h3 h4 h5 h6;omega
  ·intro a b ai bi d v w h1 h2 h3 h4 h5 h6 h7;omega
  ·intro a b ai bi d v w h1 h2 h3 h4 h5 h6 h7 h8;omega
 | succ f ih =>
  obtain⟨i0,i1,i2,i3⟩:=ih;exact⟨zB8 l hl ho f i0 i1,zFa l hl ho f i2 i3,zK1 l hl ho f i0,zFb l hl ho f i2⟩
theorem zGp(l:List Mt.zTD)(v:Value)(w:World)(hl:l.length<=64)(ho:Mt.bM l)(h:vN w v l) :
  Calls Tryz.prog 17 #[v] w λe w'=>∃v',e=.returned v'/\zF w' 0 v' (Mt.coded l)/\Below w.heap.size w w':=by
 have fc:=zBE ho 283 0 0 l.length 0 (by omega) (by omega);have K:=(zK4 l hl ho 283).1 0 l.length 0 l.length 0 v w rfl rfl h (by omega) (lG _) (by omega) (by omega) (by omega);unfold Mt.coded;generalize Mt.gen l 283 0 0 l.length 0=c at *;have F1:Hid (Mt.fit 900000000 c):=Mt.zR fc (by omega);have F2:Hid (Mt.fit 900000000 [(⟨13,0,0,[]⟩:Mt.zTG)]):=Mt.mU (vZ _ _ _ _ (by omega) (by omega)) (by omega);have KH:=K;clear fc K
 obtain⟨ao,cap,hv⟩:∃ao cap,v=.slice ao l.length cap:=by
  rcases h.2 with ⟨rfl,hn⟩ | ⟨g,cap,cur,rfl,_⟩
  ·exact⟨none,0,by rw[hn]⟩
  ·exact⟨_,_,rfl⟩
 subst hv;have KK:Hid (Calls Tryz.prog 39 #[.slice ao l.length cap,.int .i64 0,.int .i64 l.length,.int .i64 0] w λe w'=>∃v',e=.returned v'/\zF w' 0 v' c/\Below w.heap.size w w'):=KH;clear KH h;go_enter Tryz.func17,Tryz.ntmps17
 go_wp2_with fail
 refine KK.out.mono ?_;rintro e w1 ⟨v1,rfl,q1,zTH⟩;have Q1:Hid (zF w1 0 v1 c):=q1;have hs1:=zTH.size;clear q1;go_wp2_with fail
 refine(jA c [⟨13,0,0,[]⟩] _ _ _ (Q1.out.below (by go_grown)) (bL w1 _ rfl _) F1.out F2.out).mono ?_;rintro e w2 ⟨v2,rfl,q2,zTK⟩;have hB2:Below w.heap.size w w2:=(zTH.alloc hs1 _).trans (zTK.mono (by simp;omega));clear zTK zTH;go_wp2_with fail
 go_ret;exact⟨_,rfl,q2,hB2⟩
theorem zK5(l:List Mt.zTD)(t:Mt.zTD) :
  ((t.kind==2)=true/\((Mt.closed l t.n=true/\Mt.may l t=0)\/(Mt.closed l t.n=false/\Mt.may l t=6))) \/
  ((t.kind==2)=false/\(t.kind==8)=true/\((Mt.xD l=true/\Mt.may l t=0)\/(Mt.xD l=false/\Mt.may l t=7))) \/
  ((t.kind==2)=false/\(t.kind==8)=false/\(t.kind==6)=true/\((10<=Mt.kJ l/\Mt.may l t=8)\/(Mt.kJ l<10/\(t.zTF==4)=false/\Mt.may l t=0)\/(Mt.kJ l<10/\(t.zTF==4)=true/\decide (9<=Mt.zZ l)=true/\Mt.may l t=9)\/(Mt.kJ l<10/\(t.zTF==4)=true/\decide (9<=Mt.zZ l)=false/\Mt.may l t=0))) \/
  ((t.kind==2)=false/\(t.kind==8)=false/\(t.kind==6)=false/\(t.kind==7)=true/\(((Mt.kJ l==0)=true/\Mt.may l t=10)\/((Mt.kJ l==0)=false/\Mt.may l t=0))) \/
  ((t.kind==2)=false/\(t.kind==8)=false/\(t.kind==6)=false/\(t.kind==7)=false/\Mt.may l t=0):=by
 unfold Mt.may;simp only[beq_iff_eq,beq_eq_false_iff_ne,decide_eq_true_eq,lJ];by_cases h1:t.kind=2
 ·rw[if_pos h1];cases Mt.closed l t.n <;> simp[h1]
 rw[if_neg h1];by_cases h2:t.kind=8
 ·rw[if_pos h2];cases Mt.xD l <;> simp[h2]
 rw[if_neg h2];by_cases h3:t.kind=6
 ·rw[if_pos h3];by_cases h4:10<=Mt.kJ l
  ·rw[if_pos h4];simp[h3,h4]
  ·rw[if_neg h4];by_cases h5:t.zTF=4
   ·by_cases h6:9<=Mt.zZ l
    ·rw[if_pos ⟨h5,h6⟩];simp[h3,h5,h6];omega
    ·rw[if_neg (λx=>h6 x.2)];simp[h3,h5,h6];omega
   ·rw[if_neg (λx=>h5 x.1)];simp[h3,h5];omega
 rw[if_neg h3];by_cases h7:t.kind=7
 ·rw[if_pos h7];by_cases h8:Mt.kJ l=0
  ·simp[h7,h8]
  ·simp[h7,h8]
 rw[if_neg h7];simp[h1,h2,h3,h7]
theorem zO4(l:List Mt.zTD)(t:Mt.zTD)(v:Value)(w:World)(h:vN w v l)(hl:l.length<=64) :
  Calls Tryz.prog 36 #[v,mK t] w λe w'=>e=.returned (.int .i64 (Mt.may l t))/\Below w.heap.size w w':=by
 have HK:Hid (∀o,vN (w.alloc o) v l):=λo=>h.alloc o
 clear h;have⟨b1,b2⟩:=Mt.zBA l;have⟨b3,b4⟩:=Mt.fM l;unfold mK;rcases zK5 l t with ⟨a1,⟨a2,e⟩ | ⟨a2,e⟩⟩ | ⟨a1,a2,⟨a3,e⟩ | ⟨a3,e⟩⟩ | ⟨a1,a2,a3,⟨a4,e⟩ | ⟨a4,a5,e⟩ | ⟨a4,a5,a6,e⟩ | ⟨a4,a5,a6,e⟩⟩ | ⟨a1,a2,a3,a4,⟨a5,e⟩ | ⟨a5,e⟩⟩ | ⟨a1,a2,a3,a4,e⟩
 all_goals
  rw[e];clear e;go_enter Tryz.func36,Tryz.ntmps36
  go_wp2_with (first|(go_at_call 64;refine(zJA l _ _ _ (HK.out _) hl).mono ?_;rintro e w' ⟨rfl,rfl⟩)|(go_at_call 65;refine(zGo l _ _ (HK.out _) hl).mono ?_;rintro e w' ⟨rfl,rfl⟩)|(go_at_call 38;refine(zB6 l _ _ (HK.out _) hl).mono ?_;rintro e w' ⟨rfl,rfl⟩)|(go_at_call 37;refine(zCx l _ _ (HK.out _) hl).mono ?_;rintro e w' ⟨rfl,rfl⟩))
  go_ret;exact⟨rfl,by go_grown⟩
attribute [local go_sem ↓] Go.wp_at_zero Go.wp_at_succ
theorem zNd(c:Int)(b:Bool)(w:World)(h:Mt.zBa c=b)(h0:0<=c)(h1:c<=255) :
  Calls Tryz.prog 99 #[.int .u8 c] w λe w'=>e=.returned (.bool b)/\w=w':=by rw[<-h];exact zDh c w h0 h1
theorem zK6(c:Int)(b:Bool)(w:World)(h:Mt.zA6 c=b)(h0:0<=c)(h1:c<=255) :
  Calls Tryz.prog 100 #[.int .u8 c] w λe w'=>e=.returned (.bool b)/\w=w':=by rw[<-h];exact zB5 c w h0 h1
theorem zNe(w:World)(A B:Array Value)(t u:TypeId)(x:Int)(h0:0<=x)(h1:x<=255) :
  (convert 151 9 (.slice (some ⟨w.heap.size+1+1,0,none⟩) 1 1)).run Tryz.prog (((w.alloc (.cells A t)).alloc (.cells B u)).alloc (.cells #[.int .u8 x] 5)) =
   .ok (.string ⟨#[UInt8.ofNat x.toNat]⟩) (((w.alloc (.cells A t)).alloc (.cells B u)).alloc (.cells #[.int .u8 x] 5)):=by
 refine run_convert_bytes_back _ _ _ _ ⟨w.heap.size+1+1,0,none⟩ 1 [UInt8.ofNat x.toNat] Tryz.underlying151 Tryz.underlying5 Tryz.underlying9 ?_;intro j hj;have:j=0:=by simpa using hj
 subst this;obtain⟨k,rfl⟩:=Int.eq_ofNat_of_zero_le h0;have e:k % 256=k:=by omega
 simp[Addr.add,go_sem,e]
theorem zJD(p:ByteArray)(i:Int)(w:World)(hp:p.size<=64)(hi0:0<=i)(hi1:i<=100) :
  Calls Tryz.prog 59 #[.string p,.int .i64 i] w λe w'=>e=.returned (.tuple #[mK (Mt.vD p i).1,.bool (Mt.vD p i).2])/\Below w.heap.size w w':=by
 have l1:=Mt.zCs p (i+1);rcases Mt.zAt p i with ⟨a1,e⟩ | ⟨a0,a1,⟨a2,e⟩ | ⟨a2,a3,e⟩ | ⟨a2,a3,a4,a5,a6,a7,e⟩ | ⟨a2,a3,a4,e⟩⟩
 ·rw[e];clear e;go_enter Tryz.func59,Tryz.ntmps59
  go_wp2_with (go_at_call 98;refine(mJ _ _ _ hp).mono ?_;rintro e w' ⟨rfl,rfl⟩)
  go_returns;exact⟨rfl,by go_grown⟩
 ·rw[e];clear e;go_enter Tryz.func59,Tryz.ntmps59
  go_wp2_with (first|(go_at_call 98;refine(mJ _ _ _ hp).mono ?_;rintro e w' ⟨rfl,rfl⟩)|(go_at_call 63;refine(zDj _ _ _ _ _ hp (by omega) (by omega) (by omega)).mono ?_;rintro e w1 ⟨rfl,zTH⟩;obtain⟨q0,q1,q2,q3,q4,q5⟩:=tT zTH;clear zTH))
  refine bodyPost_ret (v:=.tuple #[mK ⟨1,i,i+2,0,0,0,Mt.all p i (i+2) false⟩,.bool true]) (by simp[results,Tryz.results59,go_sem,q0,q1,q2,q3,mK]) rfl ⟨rfl,?_⟩
  go_grown
 ·rw[e];clear e;go_enter Tryz.func59,Tryz.ntmps59
  go_wp2_with (first|(go_at_call 98;refine(mJ _ _ _ hp).mono ?_;rintro e w' ⟨rfl,rfl⟩)|(go_at_call 63;refine(zDj _ _ _ _ _ hp (by omega) (by omega) (by omega)).mono ?_;rintro e w1 ⟨rfl,zTH⟩;obtain⟨q0,q1,q2,q3,q4,q5⟩:=tT zTH;clear zTH))
  refine bodyPost_ret (v:=.tuple #[mK ⟨1,i,i+2,0,0,0,Mt.all p i (i+2) false⟩,.bool true]) (by simp[results,Tryz.results59,go_sem,q0,q1,q2,q3,mK]) rfl ⟨rfl,?_⟩
  go_grown
 ·rw[e];clear e;go_enter Tryz.func59,Tryz.ntmps59
  go_wp2_with (go_at_call 98;refine(mJ _ _ _ hp).mono ?_;rintro e w' ⟨rfl,rfl⟩)
  go_returns;exact⟨rfl,by go_grown⟩
 ·rw[e];clear e;have hcv:=λA B=>zNe w A B 70 70 (Mt.zTC p (i+1)) a0 l1
  rcases a4 with a4 | ⟨a4,a5⟩ <;> cases hd:Mt.zBa (Mt.zTC p (i+1)) <;> cases hl:Mt.zA6 (Mt.zTC p (i+1))
  all_goals
   go_enter Tryz.func59,Tryz.ntmps59
   go_wp2_with (first|(go_at_call 98;refine(mJ _ _ _ hp).mono ?_;rintro e w' ⟨rfl,rfl⟩))
   first|(go_region_with (first|(go_at_call 99;refine(zNd _ _ _ hd (by omega) (by omega)).mono ?_;rintro e w' ⟨rfl,rfl⟩)|(go_at_call 100;refine(zK6 _ _ _ hl (by omega) (by omega)).mono ?_;rintro e w' ⟨rfl,rfl⟩))) | fail
   all_goals
    go_wp2
    go_returns;exact⟨rfl,by go_grown⟩
theorem zC3(p:ByteArray)(k:Nat)(w:World)(hk:k<p.size)(hp:p.size<=64)(h1:(((p[k]'hk).toNat:Int)==124)=true) :
  Calls Tryz.prog 35 #[.string p,.int .i64 k] w λe w'=>e=.returned (.tuple #[mK ⟨5,k,k+1,0,0,0,[]⟩,.int .i64 0])/\Below w.heap.size w w':=by
 go_enter Tryz.func35,Tryz.ntmps35
 go_wp2_with fail
 go_returns;exact⟨rfl,by go_grown⟩
theorem zAN(p:ByteArray)(k:Nat)(w:World)(hk:k<p.size)(hp:p.size<=64)(h1:(((p[k]'hk).toNat:Int)==124)=false)(h2:(((p[k]'hk).toNat:Int)==41)=true) :
  Calls Tryz.prog 35 #[.string p,.int .i64 k] w λe w'=>e=.returned (.tuple #[mK ⟨7,k,k+1,0,0,0,[]⟩,.int .i64 0])/\Below w.heap.size w w':=by
 go_enter Tryz.func35,Tryz.ntmps35
 go_wp2_with fail
 go_returns;exact⟨rfl,by go_grown⟩
theorem zK7(p:ByteArray)(k:Nat)(w:World)(hk:k<p.size)(hp:p.size<=64)(h1:(((p[k]'hk).toNat:Int)==124)=false)(h2:(((p[k]'hk).toNat:Int)==41)=false)(h3:(((p[k]'hk).toNat:Int)==94)=true) :
  Calls Tryz.prog 35 #[.string p,.int .i64 k] w λe w'=>e=.returned (.tuple #[mK ⟨3,k,k+1,0,0,0,[]⟩,.int .i64 0])/\Below w.heap.size w w':=by
 go_enter Tryz.func35,Tryz.ntmps35
 go_wp2_with fail
 go_returns;exact⟨rfl,by go_grown⟩
theorem zK8(p:ByteArray)(k:Nat)(w:World)(hk:k<p.size)(hp:p.size<=64)(h1:(((p[k]'hk).toNat:Int)==124)=false)(h2:(((p[k]'hk).toNat:Int)==41)=false)(h3:(((p[k]'hk).toNat:Int)==94)=false)(h4:(((p[k]'hk).toNat:Int)==36)=true) :
  Calls Tryz.prog 35 #[.string p,.int .i64 k] w λe w'=>e=.returned (.tuple #[mK ⟨4,k,k+1,0,0,0,[]⟩,.int .i64 0])/\Below w.heap.size w w':=by
 go_enter Tryz.func35,Tryz.ntmps35
 go_wp2_with fail
 go_returns;exact⟨rfl,by go_grown⟩
theorem zJE(p:ByteArray)(k:Nat)(w:World)(hk:k<p.size)(hp:p.size<=64)(h1:(((p[k]'hk).toNat:Int)==124)=false)(h2:(((p[k]'hk).toNat:Int)==41)=false)(h3:(((p[k]'hk).toNat:Int)==94)=false)(h4:(((p[k]'hk).toNat:Int)==36)=false)(h5:(((p[k]'hk).toNat:Int)==92)=false)(h6:(((p[k]'hk).toNat:Int)==91)=true)(b:Bool)(hb:(Mt.qU p k).2=b) :
  Calls Tryz.prog 35 #[.string p,.int .i64 k] w λe w'=>e=.returned (.tuple #[mK (Mt.qU p k).1,.int .i64 (if b then 0 else 3)])/\Below w.heap.size w w':=by
 generalize hT:Mt.qU p k=T at *;have HT:Hid (Mt.qU p k=T):=hT;clear hT;cases b
 all_goals
  go_enter Tryz.func35,Tryz.ntmps35
  go_wp2_with fail
  refine(zKV _ _ _ hp (by omega) (by omega)).mono ?_;rw[HT.out];rintro e w1 ⟨rfl,zTH⟩;simp only[hb];obtain⟨q0,q1,q2,q3,q4,q5⟩:=tT zTH;clear zTH;go_wp2_with (refine vG rfl (.tmp 6) (.tmp 49) (by rfl) (w.heap.size+1) T.1 (by rfl) (by rfl) q2 q3 (by rfl) ?_;intro w2 r1 r2 r3 r4 r5 r6;have s0:=λo=>(r3 w.heap.size o (by omega)).trans (q0 o);have s1:=λo=>(r4 w.heap.size o).trans (q1 o);have s2:Below w.heap.size w w2:=q5.trans (r6 _ (by omega));clear r3 r4 r6 q0 q1 q2 q3 q5)
  refine bodyPost_ret (v:=.tuple #[mK T.1,_]) (by simp[results,Tryz.results35,go_sem,s0,s1,r1,r2,mK]) rfl ⟨rfl,?_⟩
  go_grown
theorem zBF(p:ByteArray)(k:Nat)(w:World)(hk:k<p.size)(hp:p.size<=64)(h1:(((p[k]'hk).toNat:Int)==124)=false)(h2:(((p[k]'hk).toNat:Int)==41)=false)(h3:(((p[k]'hk).toNat:Int)==94)=false)(h4:(((p[k]'hk).toNat:Int)==36)=false)(h5:(((p[k]'hk).toNat:Int)==92)=false)(h6:(((p[k]'hk).toNat:Int)==91)=false)(h7:(((p[k]'hk).toNat:Int)==40)=true)(b:Bool)(hb:(Mt.kW p k).2=b) :
  Calls Tryz.prog 35 #[.string p,.int .i64 k] w λe w'=>e=.returned (.tuple #[mK (Mt.kW p k).1,.int .i64 (if b then 0 else 5)])/\Below w.heap.size w w':=by
 generalize hT:Mt.kW p k=T at *;have HT:Hid (Mt.kW p k=T):=hT;clear hT;cases b
 all_goals
  go_enter Tryz.func35,Tryz.ntmps35
  go_wp2_with fail
  refine(zHG _ _ _ hp (by omega) (by omega)).mono ?_;rw[HT.out];rintro e w1 ⟨rfl,zTH⟩;simp only[hb];obtain⟨q0,q1,q2,q3,q4,q5⟩:=tT zTH;clear zTH;go_wp2_with (refine vG rfl (.tmp 6) (.tmp 57) (by rfl) (w.heap.size+1) T.1 (by rfl) (by rfl) q2 q3 (by rfl) ?_;intro w2 r1 r2 r3 r4 r5 r6;have s0:=λo=>(r3 w.heap.size o (by omega)).trans (q0 o);have s1:=λo=>(r4 w.heap.size o).trans (q1 o);have s2:Below w.heap.size w w2:=q5.trans (r6 _ (by omega));clear r3 r4 r6 q0 q1 q2 q3 q5)
  refine bodyPost_ret (v:=.tuple #[mK T.1,_]) (by simp[results,Tryz.results35,go_sem,s0,s1,r1,r2,mK]) rfl ⟨rfl,?_⟩
  go_grown
theorem zJF(p:ByteArray)(k:Nat)(w:World)(hk:k<p.size)(hp:p.size<=64)(h1:(((p[k]'hk).toNat:Int)==124)=false)(h2:(((p[k]'hk).toNat:Int)==41)=false)(h3:(((p[k]'hk).toNat:Int)==94)=false)(h4:(((p[k]'hk).toNat:Int)==36)=false)(h5:(((p[k]'hk).toNat:Int)==92)=false)(h6:(((p[k]'hk).toNat:Int)==91)=false)(h7:(((p[k]'hk).toNat:Int)==40)=false)(h8:(((p[k]'hk).toNat:Int)==42)=true)(b:Bool)(hb:(Mt.jF p k).2=b) :
  Calls Tryz.prog 35 #[.string p,.int .i64 k] w λe w'=>e=.returned (.tuple #[mK (Mt.jF p k).1,.int .i64 (if b then 0 else 4)])/\Below w.heap.size w w':=by
 generalize hT:Mt.jF p k=T at *;have HT:Hid (Mt.jF p k=T):=hT;clear hT;cases b
 all_goals
  go_enter Tryz.func35,Tryz.ntmps35
  go_wp2_with fail
  refine(zAM _ _ _ hp (by omega) (by omega)).mono ?_;rw[HT.out];rintro e w1 ⟨rfl,zTH⟩;simp only[hb];obtain⟨q0,q1,q2,q3,q4,q5⟩:=tT zTH;clear zTH;go_wp2_with (refine vG rfl (.tmp 6) (.tmp 68) (by rfl) (w.heap.size+1) T.1 (by rfl) (by rfl) q2 q3 (by rfl) ?_;intro w2 r1 r2 r3 r4 r5 r6;have s0:=λo=>(r3 w.heap.size o (by omega)).trans (q0 o);have s1:=λo=>(r4 w.heap.size o).trans (q1 o);have s2:Below w.heap.size w w2:=q5.trans (r6 _ (by omega));clear r3 r4 r6 q0 q1 q2 q3 q5)
  refine bodyPost_ret (v:=.tuple #[mK T.1,_]) (by simp[results,Tryz.results35,go_sem,s0,s1,r1,r2,mK]) rfl ⟨rfl,?_⟩
  go_grown
theorem zJG(p:ByteArray)(k:Nat)(w:World)(hk:k<p.size)(hp:p.size<=64)(h1:(((p[k]'hk).toNat:Int)==124)=false)(h2:(((p[k]'hk).toNat:Int)==41)=false)(h3:(((p[k]'hk).toNat:Int)==94)=false)(h4:(((p[k]'hk).toNat:Int)==36)=false)(h5:(((p[k]'hk).toNat:Int)==92)=false)(h6:(((p[k]'hk).toNat:Int)==91)=false)(h7:(((p[k]'hk).toNat:Int)==40)=false)(h8:(((p[k]'hk).toNat:Int)==42)=false)(h9:(((p[k]'hk).toNat:Int)==43)=true)(b:Bool)(hb:(Mt.jF p k).2=b) :
  Calls Tryz.prog 35 #[.string p,.int .i64 k] w λe w'=>e=.returned (.tuple #[mK (Mt.jF p k).1,.int .i64 (if b then 0 else 4)])/\Below w.heap.size w w':=by
 generalize hT:Mt.jF p k=T at *;have HT:Hid (Mt.jF p k=T):=hT;clear hT;cases b
 all_goals
  go_enter Tryz.func35,Tryz.ntmps35
  go_wp2_with fail
  refine(zAM _ _ _ hp (by omega) (by omega)).mono ?_;rw[HT.out];rintro e w1 ⟨rfl,zTH⟩;simp only[hb];obtain⟨q0,q1,q2,q3,q4,q5⟩:=tT zTH;clear zTH;go_wp2_with (refine vG rfl (.tmp 6) (.tmp 68) (by rfl) (w.heap.size+1) T.1 (by rfl) (by rfl) q2 q3 (by rfl) ?_;intro w2 r1 r2 r3 r4 r5 r6;have s0:=λo=>(r3 w.heap.size o (by omega)).trans (q0 o);have s1:=λo=>(r4 w.heap.size o).trans (q1 o);have s2:Below w.heap.size w w2:=q5.trans (r6 _ (by omega));clear r3 r4 r6 q0 q1 q2 q3 q5)
  refine bodyPost_ret (v:=.tuple #[mK T.1,_]) (by simp[results,Tryz.results35,go_sem,s0,s1,r1,r2,mK]) rfl ⟨rfl,?_⟩
  go_grown
theorem zJH(p:ByteArray)(k:Nat)(w:World)(hk:k<p.size)(hp:p.size<=64)(h1:(((p[k]'hk).toNat:Int)==124)=false)(h2:(((p[k]'hk).toNat:Int)==41)=false)(h3:(((p[k]'hk).toNat:Int)==94)=false)(h4:(((p[k]'hk).toNat:Int)==36)=false)(h5:(((p[k]'hk).toNat:Int)==92)=false)(h6:(((p[k]'hk).toNat:Int)==91)=false)(h7:(((p[k]'hk).toNat:Int)==40)=false)(h8:(((p[k]'hk).toNat:Int)==42)=false)(h9:(((p[k]'hk).toNat:Int)==43)=false)(h10:(((p[k]'hk).toNat:Int)==63)=true)(b:Bool)(hb:(Mt.jF p k).2=b) :
  Calls Tryz.prog 35 #[.string p,.int .i64 k] w λe w'=>e=.returned (.tuple #[mK (Mt.jF p k).1,.int .i64 (if b then 0 else 4)])/\Below w.heap.size w w':=by
 generalize hT:Mt.jF p k=T at *;have HT:Hid (Mt.jF p k=T):=hT;clear hT;cases b
 all_goals
  go_enter Tryz.func35,Tryz.ntmps35
  go_wp2_with fail
  refine(zAM _ _ _ hp (by omega) (by omega)).mono ?_;rw[HT.out];rintro e w1 ⟨rfl,zTH⟩;simp only[hb];obtain⟨q0,q1,q2,q3,q4,q5⟩:=tT zTH;clear zTH;go_wp2_with (refine vG rfl (.tmp 6) (.tmp 68) (by rfl) (w.heap.size+1) T.1 (by rfl) (by rfl) q2 q3 (by rfl) ?_;intro w2 r1 r2 r3 r4 r5 r6;have s0:=λo=>(r3 w.heap.size o (by omega)).trans (q0 o);have s1:=λo=>(r4 w.heap.size o).trans (q1 o);have s2:Below w.heap.size w w2:=q5.trans (r6 _ (by omega));clear r3 r4 r6 q0 q1 q2 q3 q5)
  refine bodyPost_ret (v:=.tuple #[mK T.1,_]) (by simp[results,Tryz.results35,go_sem,s0,s1,r1,r2,mK]) rfl ⟨rfl,?_⟩
  go_grown
theorem zHN(p:ByteArray)(k:Nat)(w:World)(hk:k<p.size)(hp:p.size<=64)(h1:(((p[k]'hk).toNat:Int)==124)=false)(h2:(((p[k]'hk).toNat:Int)==41)=false)(h3:(((p[k]'hk).toNat:Int)==94)=false)(h4:(((p[k]'hk).toNat:Int)==36)=false)(h5:(((p[k]'hk).toNat:Int)==92)=false)(h6:(((p[k]'hk).toNat:Int)==91)=false)(h7:(((p[k]'hk).toNat:Int)==40)=false)(h8:(((p[k]'hk).toNat:Int)==42)=false)(h9:(((p[k]'hk).toNat:Int)==43)=false)(h10:(((p[k]'hk).toNat:Int)==63)=false)(h11:(((p[k]'hk).toNat:Int)==123)=true)(b:Bool)(hb:(Mt.jF p k).2=b) :
  Calls Tryz.prog 35 #[.string p,.int .i64 k] w λe w'=>e=.returned (.tuple #[mK (Mt.jF p k).1,.int .i64 (if b then 0 else 4)])/\Below w.heap.size w w':=by
 generalize hT:Mt.jF p k=T at *;have HT:Hid (Mt.jF p k=T):=hT;clear hT;cases b
 all_goals
  go_enter Tryz.func35,Tryz.ntmps35
  go_wp2_with fail
  refine(zAM _ _ _ hp (by omega) (by omega)).mono ?_;rw[HT.out];rintro e w1 ⟨rfl,zTH⟩;simp only[hb];obtain⟨q0,q1,q2,q3,q4,q5⟩:=tT zTH;clear zTH;go_wp2_with (refine vG rfl (.tmp 6) (.tmp 68) (by rfl) (w.heap.size+1) T.1 (by rfl) (by rfl) q2 q3 (by rfl) ?_;intro w2 r1 r2 r3 r4 r5 r6;have s0:=λo=>(r3 w.heap.size o (by omega)).trans (q0 o);have s1:=λo=>(r4 w.heap.size o).trans (q1 o);have s2:Below w.heap.size w w2:=q5.trans (r6 _ (by omega));clear r3 r4 r6 q0 q1 q2 q3 q5)
  refine bodyPost_ret (v:=.tuple #[mK T.1,_]) (by simp[results,Tryz.results35,go_sem,s0,s1,r1,r2,mK]) rfl ⟨rfl,?_⟩
  go_grown
theorem zNf(p:ByteArray)(k:Nat)(w:World)(hk:k<p.size)(hp:p.size<=64)(h1:(((p[k]'hk).toNat:Int)==124)=false)(h2:(((p[k]'hk).toNat:Int)==41)=false)(h3:(((p[k]'hk).toNat:Int)==94)=false)(h4:(((p[k]'hk).toNat:Int)==36)=false)(h5:(((p[k]'hk).toNat:Int)==92)=false)(h6:(((p[k]'hk).toNat:Int)==91)=false)(h7:(((p[k]'hk).toNat:Int)==40)=false)(h8:(((p[k]'hk).toNat:Int)==42)=false)(h9:(((p[k]'hk).toNat:Int)==43)=false)(h10:(((p[k]'hk).toNat:Int)==63)=false)(h11:(((p[k]'hk).toNat:Int)==123)=false)(h12:(((p[k]'hk).toNat:Int)==46)=true) :
  Calls Tryz.prog 35 #[.string p,.int .i64 k] w λe w'=>e=.returned (.tuple #[mK ⟨1,k,k+1,0,0,0,Mt.all p k k true⟩,.int .i64 0])/\Below w.heap.size w w':=by
 go_enter Tryz.func35,Tryz.ntmps35
 go_wp2_with (first|(go_at_call 63;refine(zDj _ _ _ _ _ hp (by omega) (by omega) (by omega)).mono ?_;rintro e w1 ⟨rfl,zTH⟩;obtain⟨q0,q1,q2,q3,q4,q5⟩:=tT zTH;clear zTH))
 refine bodyPost_ret (v:=.tuple #[mK ⟨1,k,k+1,0,0,0,Mt.all p k k true⟩,.int .i64 0]) (by simp[results,Tryz.results35,go_sem,q0,q1,q2,q3,mK]) rfl ⟨rfl,?_⟩
 go_grown
theorem zHO(p:ByteArray)(k:Nat)(hk:k<p.size):p.extract k (k+1)=⟨([UInt8.ofNat (Mt.zTC p k).toNat]:List UInt8).toArray⟩:=by
 have e:=byte_at p k hk;have e2:(Mt.zTC p k).toNat=(p[k]'hk).toNat:=by rw[<-e];simp
 rw[e2];have e3:UInt8.ofNat (p[k]'hk).toNat=p[k]'hk:=by simp
 rw[e3];apply ByteArray.ext;rw[ByteArray.data_extract];apply Array.ext';have hk':k<p.data.size:=hk;rw[Array.toList_extract];simp[List.extract_eq_take_drop,List.take_one,hk'];rw[Array.getElem?_eq_getElem hk'];rfl
theorem zK9(p:ByteArray)(k:Nat)(w:World)(hk:k<p.size)(hp:p.size<=64)(h1:(((p[k]'hk).toNat:Int)==124)=false)(h2:(((p[k]'hk).toNat:Int)==41)=false)(h3:(((p[k]'hk).toNat:Int)==94)=false)(h4:(((p[k]'hk).toNat:Int)==36)=false)(h5:(((p[k]'hk).toNat:Int)==92)=false)(h6:(((p[k]'hk).toNat:Int)==91)=false)(h7:(((p[k]'hk).toNat:Int)==40)=false)(h8:(((p[k]'hk).toNat:Int)==42)=false)(h9:(((p[k]'hk).toNat:Int)==43)=false)(h10:(((p[k]'hk).toNat:Int)==63)=false)(h11:(((p[k]'hk).toNat:Int)==123)=false)(h12:(((p[k]'hk).toNat:Int)==46)=false) :
  Calls Tryz.prog 35 #[.string p,.int .i64 k] w λe w'=>e=.returned (.tuple #[mK ⟨1,k,k+1,0,0,0,[UInt8.ofNat (Mt.zTC p k).toNat]⟩,.int .i64 0])/\Below w.heap.size w w':=by
 have hx:=zHO p k hk;go_enter Tryz.func35,Tryz.ntmps35
 go_wp2_with fail
 go_returns;exact⟨rfl,by go_grown⟩
theorem zNg(p:ByteArray)(k:Nat)(w:World)(hk:k<p.size)(hp:p.size<=64)(h1:(((p[k]'hk).toNat:Int)==124)=false)(h2:(((p[k]'hk).toNat:Int)==41)=false)(h3:(((p[k]'hk).toNat:Int)==94)=false)(h4:(((p[k]'hk).toNat:Int)==36)=false)(h5:(((p[k]'hk).toNat:Int)==92)=true)
  (b:Bool) (hb:(Mt.vD p k).2=b) :
  Calls Tryz.prog 35 #[.string p,.int .i64 k] w λe w'=>e=.returned (.tuple #[mK (Mt.vD p k).1,.int .i64 (if b then 0 else 2)])/\Below w.heap.size w w':=by
 generalize hT:Mt.vD p k=T at *;have HT:Hid (Mt.vD p k=T):=hT;clear hT;cases b
 all_goals
  go_enter Tryz.func35,Tryz.ntmps35
  go_wp2_with fail
  refine(zJD _ _ _ hp (by omega) (by omega)).mono ?_;rw[HT.out];rintro e w1 ⟨rfl,zTH⟩;simp only[hb];obtain⟨q0,q1,q2,q3,q4,q5⟩:=tT zTH;clear zTH;go_wp2_with (refine vG rfl (.tmp 6) (.tmp 41) (by rfl) (w.heap.size+1) T.1 (by rfl) (by rfl) q2 q3 (by rfl) ?_;intro w2 r1 r2 r3 r4 r5 r6;have s0:=λo=>(r3 w.heap.size o (by omega)).trans (q0 o);have s1:=λo=>(r4 w.heap.size o).trans (q1 o);have s2:Below w.heap.size w w2:=q5.trans (r6 _ (by omega));clear r3 r4 r6 q0 q1 q2 q3 q5)
  refine bodyPost_ret (v:=.tuple #[mK T.1,_]) (by simp[results,Tryz.results35,go_sem,s0,s1,r1,r2,mK]) rfl ⟨rfl,?_⟩
  go_grown
theorem zIN(p:ByteArray)(i:Int)(w:World)(hp:p.size<=64)(hi0:0<=i)(hi1:i<(p.size:Int)) :
  Calls Tryz.prog 35 #[.string p,.int .i64 i] w λe w'=>e=.returned (.tuple #[mK (Mt.jJ p i).1,.int .i64 (Mt.jJ p i).2])/\Below w.heap.size w w':=by
 obtain⟨k,rfl⟩:=Int.eq_ofNat_of_zero_le hi0;have hk:k<p.size:=by omega
 have eb:=byte_at p k hk;have yes:∀q:Int,Mt.zTC p k=q->(((p[k]'hk).toNat:Int)==q)=true:=λq h=>by rw[eb];simpa using h
 have no:∀q:Int,¬Mt.zTC p k=q->(((p[k]'hk).toNat:Int)==q)=false:=λq h=>by rw[eb];simpa using h
 unfold Mt.jJ;by_cases h1:Mt.zTC p k=124
 ·rw[if_pos h1];exact zC3 p k w hk hp (yes _ h1)
 rw[if_neg h1];by_cases h2:Mt.zTC p k=41
 ·rw[if_pos h2];exact zAN p k w hk hp (no _ h1) (yes _ h2)
 rw[if_neg h2];by_cases h3:Mt.zTC p k=94
 ·rw[if_pos h3];exact zK7 p k w hk hp (no _ h1) (no _ h2) (yes _ h3)
 rw[if_neg h3];by_cases h4:Mt.zTC p k=36
 ·rw[if_pos h4];exact zK8 p k w hk hp (no _ h1) (no _ h2) (no _ h3) (yes _ h4)
 rw[if_neg h4];by_cases h5:Mt.zTC p k=92
 ·rw[if_pos h5];exact zNg p k w hk hp (no _ h1) (no _ h2) (no _ h3) (no _ h4) (yes _ h5) _ rfl
 rw[if_neg h5];by_cases h6:Mt.zTC p k=91
 ·rw[if_pos h6];exact zJE p k w hk hp (no _ h1) (no _ h2) (no _ h3) (no _ h4) (no _ h5) (yes _ h6) _ rfl
 rw[if_neg h6];by_cases h7:Mt.zTC p k=40
 ·rw[if_pos h7];exact zBF p k w hk hp (no _ h1) (no _ h2) (no _ h3) (no _ h4) (no _ h5) (no _ h6) (yes _ h7) _ rfl
 rw[if_neg h7];by_cases h8:Mt.zTC p k=42
 ·rw[if_pos (Or.inl h8)];exact zJF p k w hk hp (no _ h1) (no _ h2) (no _ h3) (no _ h4) (no _ h5) (no _ h6) (no _ h7) (yes _ h8) _ rfl
 by_cases h9:Mt.zTC p k=43
 ·rw[if_pos (Or.inr (Or.inl h9))];exact zJG p k w hk hp (no _ h1) (no _ h2) (no _ h3) (no _ h4) (no _ h5) (no _ h6) (no _ h7) (no _ h8) (yes _ h9) _ rfl
 by_cases h10:Mt.zTC p k=63
 ·rw[if_pos (Or.inr (Or.inr (Or.inl h10)))];exact zJH p k w hk hp (no _ h1) (no _ h2) (no _ h3) (no _ h4) (no _ h5) (no _ h6) (no _ h7) (no _ h8) (no _ h9) (yes _ h10) _ rfl
 by_cases h11:Mt.zTC p k=123
 ·rw[if_pos (Or.inr (Or.inr (Or.inr h11)))];exact zHN p k w hk hp (no _ h1) (no _ h2) (no _ h3) (no _ h4) (no _ h5) (no _ h6) (no _ h7) (no _ h8) (no _ h9) (no _ h10) (yes _ h11) _ rfl
 rw[if_neg (by rintro(h | h | h | h) <;> contradiction)];by_cases h12:Mt.zTC p k=46
 ·rw[if_pos h12];exact zNf p k w hk hp (no _ h1) (no _ h2) (no _ h3) (no _ h4) (no _ h5) (no _ h6) (no _ h7) (no _ h8) (no _ h9) (no _ h10) (no _ h11) (yes _ h12)
 rw[if_neg h12];exact zK9 p k w hk hp (no _ h1) (no _ h2) (no _ h3) (no _ h4) (no _ h5) (no _ h6) (no _ h7) (no _ h8) (no _ h9) (no _ h10) (no _ h11) (no _ h12)
theorem Tryz.info80:(Tryz.prog.info? 70).map (λi=>(i.zero,i.size,i.bytes))=some (some (.agg #[.int .i64 0,.int .i64 0,.int .i64 0,.int .i64 0,.int .i64 0,.int .i64 0,.string ⟨#[]⟩]),7,64):=by kernel_rfl
def xV(w:World)(base:Nat)(v:Value)(l:List Mt.zTD):Prop:=w.ownsRow base 70 7 v l.length (l.flatMap vU)
theorem xV.vN{w:World}{base:Nat}{v:Value}{l:List Mt.zTD}(h:xV w base v l):vN w v l:=jG h (Nat.zero_le _)
theorem xV.below{w w':World}{base:Nat}{v:Value}{l:List Mt.zTD}(h:xV w base v l)(hb:Below w.heap.size w w'):xV w' base v l:=qH h hb
theorem zAO{p:ByteArray}{a:Int}{k:Int}(hp:p.size<=64)(h:Mt.yL p [] 0=([],a,k))(ha:a≠0):Mt.zY p=([],a,k):=by
 unfold Mt.zY;rw[if_neg (by omega),Mt.xZ p hp,h,if_pos ha]
theorem wU{p:ByteArray}{l:List Mt.zTD}{k:Int}(hp:p.size<=64)(h:Mt.yL p [] 0=(l,0,k))(ho:0<Mt.kJ l):Mt.zY p=([],11,(p.size:Int)):=by
 unfold Mt.zY;rw[if_neg (by omega),Mt.xZ p hp,h,if_neg (by simp),if_pos ho]
theorem zGq{p:ByteArray}{l:List Mt.zTD}{k:Int}(hp:p.size<=64)(h:Mt.yL p [] 0=(l,0,k))(ho:¬0<Mt.kJ l):Mt.zY p=(l,0,0):=by
 unfold Mt.zY;rw[if_neg (by omega),Mt.xZ p hp,h,if_neg (by simp),if_neg ho]
theorem zGr{l:List Mt.zTD}{t:Mt.zTD}(h:Mt.jO t=false):Mt.yQ l t=t:=by unfold Mt.yQ;rw[h];rfl
theorem zJI{l:List Mt.zTD}{t:Mt.zTD}(h:Mt.jO t=true):Mt.yQ l t={ t with n:=Mt.zZ l+1 }:=by unfold Mt.yQ;rw[h];rfl
theorem zHP(t:Mt.zTD):∀u∈vU t,u.oneCell'=true:=by
 intro u hu;simp only[vU,List.mem_cons,List.not_mem_nil,or_false]at hu;rcases hu with rfl | rfl | rfl | rfl | rfl | rfl | rfl <;> rfl
theorem xV.set{w:World}{base:Nat}{v:Value}{l:List Mt.zTD}(h:xV w base v l)(b x:Nat)(u:Value)(hne:∀q,v.ownBlock=some q->q<b):xV (w.setCell ⟨b,x,none⟩ u) base v l :=
 World.ownsRow.kept h (zBD w ⟨b,x,none⟩ u) (Or.inr (λe=>by have:=hne b e;omega))
theorem zFc{w:World}{base:Nat}{v:Value}{l:List Mt.zTD}{t:Mt.zTD}(h:w.ownsRow base 70 7 v (l.length+1) (l.flatMap vU++vU t)):xV w base v (l++[t]):=by
 unfold xV;rw[lM,List.flatMap_append,List.flatMap_cons,List.flatMap_nil,List.append_nil];exact h
theorem zHQ(p:ByteArray)(w:World)(h:64<p.size)(hm:p.size<=maxLen) :
  Calls Tryz.prog 16 #[.string p] w λe w'=>e=.returned (.tuple #[.slice none 0 0,.int .i64 1,.int .i64 0])/\w=w':=by
 unfold maxLen at hm;go_enter Tryz.func16,Tryz.ntmps16
 go_wp2_with fail
 go_ret3
 exact⟨rfl,rfl⟩
theorem zGs(p:ByteArray)(w:World)(hp:p.size<=64) :
  Calls Tryz.prog 16 #[.string p] w λe w'=>∃v,e=.returned (.tuple #[v,.int .i64 (Mt.zY p).2.1,.int .i64 (Mt.zY p).2.2])/\xV w' w.heap.size v (Mt.zY p).1/\Below w.heap.size w w':=by
 obtain⟨i0,hi,hz0,hz1,hz2⟩:=info_parts Tryz.info80;go_enter Tryz.func16,Tryz.ntmps16
 go_wp2_with fail
 go_loopw [5,6] (λv i wr=>∃(k:Nat) (l:List Mt.zTD),k<=p.size/\l.length<=k/\i=.int .i64 k/\xV wr w.heap.size v l/\Below w.heap.size w wr/\Mt.yL p [] 0=Mt.yL p l k) (λ_ i _=>p.size-(intOf i).toNat)
 case atStart=>exact⟨0,[],Nat.zero_le _,lG _,rfl,World.ownsRow_nil _ _ _ _,Below.refl _ _,rfl⟩
 case round =>
  obtain⟨k,l,hk,hlk,rfl,jS,qV,hr⟩:=hrel;have H:Hid (Mt.yL p [] 0=Mt.yL p l k):=hr;have HO:Hid (xV wr w.heap.size u5 l):=jS;have hsz:=qV.size;clear hr jS;by_cases zTI:k<p.size
  ·have zTJ:=Mt.pF p l k (by omega) (by omega);rw[if_neg (by omega),<-H.out]at zTJ;have hto:=Mt.wP p k (by omega) (by omega);generalize hT:Mt.jJ p k=T at *;have HT:Hid (Mt.jJ p k=T):=hT;clear hT;cases hne:(T.2==0)
   ·rw[if_pos (by simpa using hne)]at zTJ;have HS:Hid (Mt.yL p [] 0=([],T.2,(k:Int))):=zTJ;have hne2:(T.2 != 0)=true:=by simpa using hne
    clear zTJ H hto;go_wp2_with (first|(go_at_call 35;refine(zIN _ _ _ hp (by omega) (by omega)).mono ?_;rw[HT.out];rintro e w1 ⟨rfl,zTH⟩;simp only[mK]) | fail)
    go_ret3
    refine⟨.slice none 0 0,?_,?_,?_⟩
    ·rw[zAO hp HS.out (by simpa using hne)];rfl
    ·rw[zAO hp HS.out (by simpa using hne)];exact World.ownsRow_nil _ _ _ _
    ·have zTK:Below w.heap.size w w1:=qV.trans (zTH.mono hsz);exact zTK.alloc (by have:=zTK.size;omega) _
   ·have hn0:T.2=0:=by simpa using hne
    have zRk:=hto hn0;have zS0:=zRk.1;have zS1:=zRk.2;rw[if_neg (by simp[hn0])]at zTJ;clear hto zRk;have HS:Hid (Mt.yL p [] 0=if Mt.may l T.1≠0 then([],Mt.may l T.1,(k:Int))else Mt.yL p (l++[Mt.yQ l T.1]) T.1.to):=zTJ;clear zTJ H hn0;go_wp2_with (first|(go_at_call 35;refine(zIN _ _ _ hp (by omega) (by omega)).mono ?_;rw[HT.out];rintro e w1 ⟨rfl,zTH⟩;simp only[mK]) | fail)
    have hbw:Below w.heap.size w w1:=qV.trans (zTH.mono hsz);have hsz1:w.heap.size<=w1.heap.size:=hbw.size;have HO1:Hid (xV w1 w.heap.size u5 l):=HO.out.below zTH;refine(zO4 l T.1 u5 _ (HO1.out.vN.alloc _) (by omega)).mono ?_;rintro e w2 ⟨rfl,zTK⟩;have HO2:Hid (xV w2 w.heap.size u5 l):=xV.below (World.ownsRow.alloc HO1.out _) zTK;obtain⟨q0,q1,q2,q3⟩:=fB zTK;have hg5:∀q,u5.ownBlock=some q->q<w1.heap.size:=λq hq=>(World.ownsRow.lt HO1.out q hq).2
    clear zTK HO HO1 zTH;have hbw2:Below w.heap.size w w2:=hbw.trans (q3.mono hsz1);have hsz2:w.heap.size<=w2.heap.size:=hbw2.size;cases hm:(Mt.may l T.1 != 0)
    ·have hm0:¬Mt.may l T.1≠0:=by simpa using hm
     have HS2:Hid (Mt.yL p [] 0=Mt.yL p (l++[Mt.yQ l T.1]) T.1.to):=by show _=_;rw[HS.out,if_neg hm0]
     clear HS hm0;rcases zDp T.1 with ⟨e1,e3⟩ | ⟨e1,e2,e3⟩ | ⟨e1,e2,e3⟩
     ·have HJ:Hid (Mt.yQ l T.1=T.1):=zGr e3;clear e3;go_wp2_with (first|(at_builtin;refine wpList_append_own _ rfl _ _ 39 rfl w.heap.size 70 i0 _ 7 64 Tryz.underlying39 hi hz0 hz1 hz2 rfl (by decide) _ _ _ rfl (World.ownsRow.alloc HO2.out _) ⟨w2.heap.size,0,none⟩ 1 1 (vU T.1) rfl rfl (xU _ _ _) (zHP _) ?c3 ?c4 ?c5 ?_))
      case c3=>unfold maxLen;omega
      case c4=>omega
      case c5=>simp;omega
      intro v' w3 hown' jL _;have R1:Hid (xV w3 w.heap.size v' (l++[Mt.yQ l T.1])):=by rw[HJ.out];exact zFc hown'
      have R2:Below w.heap.size w w3:=(hbw2.alloc hsz2 _).grown jL (by simp;omega) (λq hq'=>(World.ownsRow.lt HO2.out q hq').1);have q6:w3.cell? ⟨w1.heap.size,2,none⟩=some (.int .i64 T.1.to):=(bY jL q2 hg5 2).trans (q0 2);clear hown' jL HO2 hg5
      go_wp2
      go_roundw
      case rel=>exact⟨T.1.to.toNat,l++[Mt.yQ l T.1],by omega,by rw[lM];simp;omega,by rw[Int.toNat_of_nonneg (by omega)],R1.out,R2,by rw[Int.toNat_of_nonneg (by omega)];exact HS2.out⟩
      case measure=>simp[intOf];omega
     ·have HJ:Hid (Mt.yQ l T.1=T.1):=zGr e3;clear e3;go_wp2_with (first|(at_builtin;refine wpList_append_own _ rfl _ _ 39 rfl w.heap.size 70 i0 _ 7 64 Tryz.underlying39 hi hz0 hz1 hz2 rfl (by decide) _ _ _ rfl (World.ownsRow.alloc HO2.out _) ⟨w2.heap.size,0,none⟩ 1 1 (vU T.1) rfl rfl (xU _ _ _) (zHP _) ?d3 ?d4 ?d5 ?_))
      case d3=>unfold maxLen;omega
      case d4=>omega
      case d5=>simp;omega
      intro v' w3 hown' jL _;have R1:Hid (xV w3 w.heap.size v' (l++[Mt.yQ l T.1])):=by rw[HJ.out];exact zFc hown'
      have R2:Below w.heap.size w w3:=(hbw2.alloc hsz2 _).grown jL (by simp;omega) (λq hq'=>(World.ownsRow.lt HO2.out q hq').1);have q6:w3.cell? ⟨w1.heap.size,2,none⟩=some (.int .i64 T.1.to):=(bY jL q2 hg5 2).trans (q0 2);clear hown' jL HO2 hg5
      go_wp2
      go_roundw
      case rel=>exact⟨T.1.to.toNat,l++[Mt.yQ l T.1],by omega,by rw[lM];simp;omega,by rw[Int.toNat_of_nonneg (by omega)],R1.out,R2,by rw[Int.toNat_of_nonneg (by omega)];exact HS2.out⟩
      case measure=>simp[intOf];omega
     ·have HJ:Hid (Mt.yQ l T.1={ T.1 with n:=Mt.zZ l+1 }):=zJI e3;clear e3;have⟨b3,b4⟩:=Mt.fM l;have HO3:Hid (xV (w2.setCell ⟨w1.heap.size,3,none⟩ (.int .i64 (Mt.zZ l+1))) w.heap.size u5 l):=HO2.out.set _ _ _ hg5;go_wp2_with (first|(go_at_call 37;refine(zCx l _ _ HO2.out.vN (by omega)).mono ?_;rintro e w' ⟨rfl,rfl⟩)|(at_builtin;refine wpList_append_own _ rfl _ _ 39 rfl w.heap.size 70 i0 _ 7 64 Tryz.underlying39 hi hz0 hz1 hz2 rfl (by decide) _ _ _ rfl (World.ownsRow.alloc HO3.out _) ⟨w2.heap.size,0,none⟩ 1 1 (vU { T.1 with n:=Mt.zZ l+1 }) rfl rfl (zDl _ _ (by simp[World.setCell]) _ _) (zHP _) ?g3 ?g4 ?g5 ?_))
      case g3=>unfold maxLen;omega
      case g4=>omega
      case g5=>simp;omega
      intro v' w3 hown' jL _;have R1:Hid (xV w3 w.heap.size v' (l++[Mt.yQ l T.1])):=by rw[HJ.out];exact zFc hown'
      have R2:Below w.heap.size w w3:=((hbw2.setCell (p:=⟨w1.heap.size,3,none⟩) hsz1 _).alloc (by simp;omega) _).grown jL (by simp;omega) (λq hq'=>(World.ownsRow.lt HO2.out q hq').1);have q5:(w2.setCell ⟨w1.heap.size,3,none⟩ (.int .i64 (Mt.zZ l+1))).cell? ⟨w1.heap.size,2,none⟩=w2.cell? ⟨w1.heap.size,2,none⟩:=World.cell?_setCell_other _ _ _ _ (by simp);have q6:w3.cell? ⟨w1.heap.size,2,none⟩=some (.int .i64 T.1.to):=(bY jL (by simp;omega) hg5 2).trans (q5.trans (q0 2));clear hown' jL HO2 hg5 HO3 q5
      go_wp2
      go_roundw
      case rel=>exact⟨T.1.to.toNat,l++[Mt.yQ l T.1],by omega,by rw[lM];simp;omega,by rw[Int.toNat_of_nonneg (by omega)],R1.out,R2,by rw[Int.toNat_of_nonneg (by omega)];exact HS2.out⟩
      case measure=>simp[intOf];omega
    ·have hm0:Mt.may l T.1≠0:=by simpa using hm
     have HS2:Hid (Mt.yL p [] 0=([],Mt.may l T.1,(k:Int))):=by show _=_;rw[HS.out,if_pos hm0]
     have HM:Hid (Mt.may l T.1≠0):=hm0;clear HS hm0;go_wp2_with fail
     go_ret3
     refine⟨.slice none 0 0,?_,?_,?_⟩
     ·rw[zAO hp HS2.out HM.out];rfl
     ·rw[zAO hp HS2.out HM.out];exact World.ownsRow_nil _ _ _ _
     ·exact hbw2
  ·have zTJ:=Mt.pF p l k (by omega) (by omega);rw[if_pos (by omega),<-H.out]at zTJ;have HS:Hid (Mt.yL p [] 0=(l,0,(k:Int))):=zTJ;clear zTJ H;have⟨b1,b2⟩:=Mt.zBA l;by_cases hop:0<Mt.kJ l
   ·go_wp2_with (first|(go_at_call 38;refine(zB6 l _ _ HO.out.vN (by omega)).mono ?_;rintro e w' ⟨rfl,rfl⟩) | fail)
    go_ret3
    refine⟨.slice none 0 0,?_,?_,?_⟩
    ·rw[wU hp HS.out hop];rfl
    ·rw[wU hp HS.out hop];exact World.ownsRow_nil _ _ _ _
    ·exact qV
   ·go_wp2_with (first|(go_at_call 38;refine(zB6 l _ _ HO.out.vN (by omega)).mono ?_;rintro e w' ⟨rfl,rfl⟩) | fail)
    go_ret3
    refine⟨u5,?_,?_,?_⟩
    ·rw[zGq hp HS.out (by omega)];rfl
    ·rw[zGq hp HS.out (by omega)];exact HO.out
    ·exact qV
