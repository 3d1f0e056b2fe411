import Derived.Test.YtebpgfodelggoabGreatKC01
import Derived.Test.YtebpgfodelggoabGreatKC00
import Derived.Deep.MidRow
import Derived.Laws.AppendOwnNone
set_option linter.unusedVariables false
set_option linter.unusedSimpArgs false
set_option maxRecDepth 100000
set_option maxHeartbeats 4000000
namespace Go.Proofs.YtebpgfodelggoabGreat
open Go.RowKit
theorem Tryz.size80:(Tryz.prog.info? 70).map (·.size)=some 7:=by kernel_rfl
theorem vG{ops:Array Oper}{rest:List Oper}{op:Oper}{a:Act}{w:World}{Q:Exit->Act->World->Prop}(hgd:op.guard=none)(x y:Operand)(ho:op.op=.store 70 x y)
  (b:Nat) (t:Mt.zTD) (hx:a.eval x=.pointer (some ⟨b,0,none⟩)) (hy:a.eval y=mK t) {B:Array Value} (q2:∀o,w.cell? ⟨b,o,none⟩=B[o]?) (q3:∀o,w.frozen? ⟨b,o,none⟩=false) (hB:B.size=7)
  (h:∀w2:World,(∀o,w2.cell? ⟨b,o,none⟩=#[Value.int .i64 t.kind,.int .i64 t.zTE,.int .i64 t.to,.int .i64 t.n,.int .i64 t.m,.int .i64 t.zTF,.string ⟨t.set.toArray⟩][o]?)->(∀o,w2.frozen? ⟨b,o,none⟩=false) ->
   (∀c o,c≠b->w2.cell? ⟨c,o,none⟩=w.cell? ⟨c,o,none⟩)->(∀c o,w2.frozen? ⟨c,o,none⟩=w.frozen? ⟨c,o,none⟩)->w2.heap.size=w.heap.size->(∀L,L<=b->Below L w w2) ->
   wpList Tryz.prog ops Q rest (a.put op.dst undef) w2):wpList Tryz.prog ops Q (op::rest) a w:=by
 obtain⟨w2,e,h1,h2,h3,h4,h5,h6⟩:=zAv q2 q3 #[Value.int .i64 t.kind,.int .i64 t.zTE,.int .i64 t.to,.int .i64 t.n,.int .i64 t.m,.int .i64 t.zTF,.string ⟨t.set.toArray⟩] (by simp[hB]);refine wpList_store_mid hgd 70 x y ho b 0 #[Value.int .i64 t.kind,.int .i64 t.zTE,.int .i64 t.to,.int .i64 t.n,.int .i64 t.m,.int .i64 t.zTF,.string ⟨t.set.toArray⟩] hx hy (qW q2 q3 7 (by omega)) Tryz.size80 (by simp[Value.oneCell']) ?_;rw[<-e];exact h w2 h1 h2 h3 h4 h5 h6
theorem zDl(w:World)(b:Nat)(hb':b=w.heap.size)(xs:List Value)(e':TypeId):∀j u,xs[j]?=some u->(w.alloc (.cells xs.toArray e')).cell? ((⟨b,0,none⟩:Addr).add j)=some u:=by
 subst hb';exact xU w xs e'
theorem zBD(w:World)(a:Addr)(u:Value):w.grownBy (w.setCell a u) (some a.block) :=
 ⟨rfl,rfl,rfl,by simp[World.setCell],λk _ hne=>Below.heap_setCell _ _ _ _ (λe=>hne (by rw[e]))⟩
theorem bY{b:Nat}{w2 w3:World}{o:Obj}{ob:Option Nat}(hg:(w2.alloc o).grownBy w3 ob)(zTI:b<w2.heap.size)(hne:∀q,ob=some q->q<b)(x:Nat):w3.cell? ⟨b,x,none⟩=w2.cell? ⟨b,x,none⟩:=by
 have h1:w3.heap[b]?=(w2.alloc o).heap[b]?:=hg.block b (by simp;omega) (λe=>by have:=hne b e.symm;omega);have h2:(w2.alloc o).heap[b]?=w2.heap[b]?:=kT _ _ _ zTI;exact World.cell?_of_block (w:=w2) (a:=⟨b,x,none⟩) (h1.trans h2)
def vN(w:World)(v:Value)(l:List Mt.zTD):Prop:=w.ownsRow 0 70 7 v l.length (l.flatMap vU)
theorem zOX:∀(l:List Mt.zTD) (k j:Nat),k<l.length->j<7->(l.flatMap vU)[k*7+j]?=(vU (l.getD k Mt.jZ))[j]?:=by
 intro l;induction l with
 | nil=>intro k j h;simp at h
 | cons t r ih =>
  intro k j h hj;rw[List.flatMap_cons];have h7:(vU t).length=7:=rfl;cases k with
  | zero=>rw[List.getElem?_append_left (by omega)];simp
  | succ k =>
   rw[List.getElem?_append_right (by omega),h7,show(k+1)*7+j-7=k*7+j by omega,ih k j (by simpa using h) hj];simp
theorem dA{w:World}{v:Value}{l:List Mt.zTD}(h:vN w v l) :
  (l=[]/\∃ao cap,v=.slice ao 0 cap) \/
  (0<l.length/\∃g cap,v=.slice (some ⟨g,0,none⟩) l.length cap/\l.length<=cap/\g<w.heap.size/\∀k j,k<l.length->j<7->w.cell? ⟨g,k*7+j,none⟩=(vU (l.getD k Mt.jZ))[j]?):=by
 by_cases h0:l=[]
 ·left;subst h0;refine⟨rfl,?_⟩;rcases h.2 with ⟨rfl,_⟩ | ⟨g,cap,cur,rfl,_⟩
  ·exact⟨_,_,rfl⟩
  ·exact⟨_,_,rfl⟩
 ·right;have hp:0<l.length:=List.length_pos_iff.2 h0;refine⟨hp,?_⟩;rcases h.2 with ⟨rfl,hn⟩ | ⟨g,cap,cur,rfl,hb,hg,h1,h2,h3,h4⟩
  ·omega
  ·refine⟨g,cap,rfl,h1,(lI.1 hg).1,λk j hk hj=>?_⟩;have hc:=World.ownsRow.cellAt (g:=g) (cap:=cap) h (k*7+j) (by omega);rw[hc,zOX l k j hk hj]
theorem yA{w w':World}{v:Value}{l:List Mt.zTD}(h:vN w v l)(hb:Below w.heap.size w w'):vN w' v l:=by
 refine⟨h.1,?_⟩;rcases h.2 with h' | ⟨g,cap,cur,rfl,h0,hg,rest⟩
 ·exact .inl h'
 ·exact .inr ⟨g,cap,cur,rfl,h0,by rw[hb.block g (lI.1 hg).1];exact hg,rest⟩
theorem zDm(t:Mt.zTD):((t.kind==6)=true/\(t.kind==7)=false/\Mt.jW t=1)\/((t.kind==6)=false/\(t.kind==7)=true/\Mt.jW t=-1)\/((t.kind==6)=false/\(t.kind==7)=false/\Mt.jW t=0):=by
 unfold Mt.jW;simp only[beq_iff_eq,beq_eq_false_iff_ne];by_cases h:t.kind=6
 ·simp[h]
 ·by_cases h2:t.kind=7
  ·simp[h2]
  ·simp[h,h2]
theorem zB6(l:List Mt.zTD)(v:Value)(w:World)(h:vN w v l)(hl:l.length<=64) :
  Calls Tryz.prog 38 #[v] w λe w'=>e=.returned (.int .i64 (Mt.kJ l))/\w=w':=by
 rcases dA h with ⟨rfl,ao,cap,rfl⟩ | ⟨hp,g,cap,rfl,hcap,hg,hc⟩
 ·clear h;go_enter Tryz.func38,Tryz.ntmps38
  go_wp2_with fail
  refine wp_loop_rounds 1 ?_;rw[rounds_succ]
  go_wp2
  go_ret;exact⟨rfl,rfl⟩
 ·clear h;have HC:Hid (∀k j,k<l.length->j<7->w.cell? ⟨g,k*7+j,none⟩=(vU (l.getD k Mt.jZ))[j]?):=hc;clear hc;go_enter Tryz.func38,Tryz.ntmps38
  go_wp2_with fail
  go_loop [3,4] (λn i=>∃k:Nat,k<=l.length/\i=.int .i64 k/\n=.int .i64 (Mt.kJ (l.take k))) (λ_ i=>l.length-(intOf i).toNat)
  case atStart=>exact⟨0,Nat.zero_le _,rfl,rfl⟩
  case round =>
   obtain⟨k,hk,rfl,rfl⟩:=hrel;have⟨b1,b2⟩:=Mt.zEj l k;by_cases zTI:k<l.length
   ·have hc0:w.cell? ⟨g,k*7,none⟩=some (.int .i64 (l.getD k Mt.jZ).kind):=HC.out k 0 zTI (by omega);have hn:Hid (Mt.kJ (l.take (k+1))=Mt.kJ (l.take k)+Mt.jW (l.getD k Mt.jZ)):=Mt.zDg l k zTI;generalize hT:l.getD k Mt.jZ=T at *;clear hT;rcases zDm T with ⟨e1,e2,e3⟩ | ⟨e1,e2,e3⟩ | ⟨e1,e2,e3⟩
    all_goals
     have hn':Hid (Mt.kJ (l.take (k+1))=Mt.kJ (l.take k)+Mt.jW T):=hn;have e3':Hid (Mt.jW T=_):=e3;clear e3 hn
     go_wp2
     go_round
     case rel=>exact⟨k+1,by omega,by go_num,by first|(rw[hn'.out,e3'.out];done)|(rw[hn'.out,e3'.out];go_num)⟩
     case measure=>simp[intOf];omega
   ·have:k=l.length:=by omega
    subst this
    go_wp2
    go_ret;exact⟨tQ (by first | rfl | rw[List.take_length]),rfl⟩
theorem zKW(t:Mt.zTG):∀u∈kM t,u.oneCell'=true:=by
 intro u hu;simp only[kM,List.mem_cons,List.not_mem_nil,or_false]at hu;rcases hu with rfl | rfl | rfl | rfl <;> rfl
theorem wS(c:List Mt.zTG):∀u∈c.flatMap kM,u.oneCell'=true:=by
 intro u hu;obtain⟨i,_,hi⟩:=List.mem_flatMap.1 hu;exact zKW i u hi
theorem zGk{w:World}{base:Nat}{v:Value}{l:List Mt.zTG}{t:Mt.zTG}(h:w.ownsRow base 48 4 v (l.length+1) (l.flatMap kM++kM t)):zF w base v (l++[t]):=by
 unfold zF;rw[lM,List.flatMap_append,List.flatMap_cons,List.flatMap_nil,List.append_nil];exact h
theorem nY(l:List Mt.zTG):(l.flatMap kM).length=l.length*4:=by
 induction l with
 | nil=>rfl
 | cons t r ih=>rw[List.flatMap_cons,lM,ih];simp[kM];omega
theorem xE{w:World}{base:Nat}{v:Value}{l:List Mt.zTG}(h:zF w base v l) :
  (l=[]/\∃ao cap,v=.slice ao 0 cap) \/
  (0<l.length/\∃g cap,v=.slice (some ⟨g,0,none⟩) l.length cap/\l.length<=cap/\g<w.heap.size/\base<=g/\∀k j,k<l.length->j<4->w.cell? ⟨g,k*4+j,none⟩=(kM (l.getD k Mt.jY))[j]?):=by
 by_cases h0:l=[]
 ·left;subst h0;refine⟨rfl,?_⟩;rcases h.2 with ⟨rfl,_⟩ | ⟨g,cap,cur,rfl,_⟩
  ·exact⟨_,_,rfl⟩
  ·exact⟨_,_,rfl⟩
 ·right;have hp:0<l.length:=List.length_pos_iff.2 h0;refine⟨hp,?_⟩;rcases h.2 with ⟨rfl,hn⟩ | ⟨g,cap,cur,rfl,hb,hg,h1,h2,h3,h4⟩
  ·omega
  ·refine⟨g,cap,rfl,h1,(lI.1 hg).1,hb,λk j hk hj=>?_⟩;have hc:=World.ownsRow.cellAt (g:=g) (cap:=cap) h (k*4+j) (by omega);rw[hc,bX l k j hk hj]
theorem Tryz.info49:(Tryz.prog.info? 48).map (λi=>(i.zero,i.size,i.bytes))=some (some (.agg #[.int .i64 0,.int .i64 0,.int .i64 0,.string ⟨#[]⟩]),4,40):=by kernel_rfl
theorem zJz{c:List Mt.zTG}{k:Nat}(h:k<c.length)(n:Int):Mt.vF (c.take (k+1)) n=Mt.vF (c.take k) n++[Mt.fU (c.getD k Mt.jY) n]:=by
 have:c.take (k+1)=c.take k++[c.getD k Mt.jY]:=by
  rw[List.take_succ_eq_append_getElem h,lH,lK h];rfl
 rw[this];simp[Mt.vF]
theorem zGl(i:Mt.zTG)(n:Int) :
  ((i.op==2)=true/\Mt.fU i n=⟨i.op,i.x+n,i.y+n,i.set⟩) \/
  ((i.op==2)=false/\(i.op==3)=true/\Mt.fU i n=⟨i.op,i.x+n,i.y,i.set⟩) \/
  ((i.op==2)=false/\(i.op==3)=false/\(i.op==5)=true/\Mt.fU i n=⟨i.op,i.x+n,i.y,i.set⟩) \/
  ((i.op==2)=false/\(i.op==3)=false/\(i.op==5)=false/\(i.op==11)=true/\Mt.fU i n=⟨i.op,i.x,i.y+n,i.set⟩) \/
  ((i.op==2)=false/\(i.op==3)=false/\(i.op==5)=false/\(i.op==11)=false/\Mt.fU i n=i):=by
 unfold Mt.fU;simp only[beq_iff_eq,beq_eq_false_iff_ne];by_cases h1:i.op=2
 ·rw[if_pos h1];simp[h1]
 rw[if_neg h1];by_cases h2:i.op=3
 ·rw[if_pos (Or.inl h2)];simp[h2]
 by_cases h3:i.op=5
 ·rw[if_pos (Or.inr h3)];simp[h3]
 rw[if_neg (by omega)];by_cases h4:i.op=11
 ·rw[if_pos h4];simp[h4]
 rw[if_neg h4];simp[h1,h2,h3,h4]
theorem zGm(c:List Mt.zTG)(n:Int)(base:Nat)(v:Value)(w:World)(h:zF w base v c)(hf:Mt.fit 1000000000 c)(hn0:0<=n)(hn1:n<=300) :
  Calls Tryz.prog 69 #[v,.int .i64 n] w λe w'=>∃v',e=.returned v'/\zF w' w.heap.size v' (Mt.vF c n)/\Below w.heap.size w w':=by
 have hlen:=hf.1;rcases xE h with ⟨rfl,ao,cap,rfl⟩ | ⟨hp,g,cap,rfl,hcap,hg,hgb,hc⟩
 ·clear h hf;go_enter Tryz.func69,Tryz.ntmps69
  go_wp2_with fail
  refine wp_loop_rounds 1 ?_;rw[rounds_succ]
  go_wp2
  go_ret;exact⟨_,rfl,World.ownsRow_nil _ _ _ _,Below.refl _ _⟩
 ·obtain⟨i0,hi,hz0,hz1,hz2⟩:=info_parts Tryz.info49;clear h;have HC:Hid (∀k j,k<c.length->j<4->w.cell? ⟨g,k*4+j,none⟩=(kM (c.getD k Mt.jY))[j]?):=hc;have HF:Hid (∀i∈c,Mt.zHE 1000000000 i):=hf.2;clear hc hf;go_enter Tryz.func69,Tryz.ntmps69
  go_wp2_with fail
  go_loopw [5,6] (λv i wr=>∃k:Nat,k<=c.length/\i=.int .i64 k/\zF wr w.heap.size v (Mt.vF (c.take k) n)/\Below w.heap.size w wr) (λ_ i _=>c.length-(intOf i).toNat)
  case atStart=>exact⟨0,Nat.zero_le _,rfl,World.ownsRow_nil _ _ _ _,Below.refl _ _⟩
  case round =>
   obtain⟨k,hk,rfl,jS,qV⟩:=hrel;have hsz:=qV.size;have hml:(Mt.vF (c.take k) n).length=k:=by rw[Mt.yE,List.length_take];omega
   have HO:Hid (zF wr w.heap.size u5 (Mt.vF (c.take k) n)):=jS;clear jS;by_cases zTI:k<c.length
   ·have hc0:wr.cell? ⟨g,k*4,none⟩=some (.int .i64 (c.getD k Mt.jY).op):=(qV.cell (p:=⟨g,k*4,none⟩) hg).trans (HC.out k 0 zTI (by omega));have hc1:wr.cell? ⟨g,k*4+1,none⟩=some (.int .i64 (c.getD k Mt.jY).x):=(qV.cell (p:=⟨g,k*4+1,none⟩) hg).trans (HC.out k 1 zTI (by omega));have hc2:wr.cell? ⟨g,k*4+2,none⟩=some (.int .i64 (c.getD k Mt.jY).y):=(qV.cell (p:=⟨g,k*4+2,none⟩) hg).trans (HC.out k 2 zTI (by omega));have hc3:wr.cell? ⟨g,k*4+3,none⟩=some (.string ⟨(c.getD k Mt.jY).set.toArray⟩):=(qV.cell (p:=⟨g,k*4+3,none⟩) hg).trans (HC.out k 3 zTI (by omega));have HT:Hid (Mt.vF (c.take (k+1)) n=Mt.vF (c.take k) n++[Mt.fU (c.getD k Mt.jY) n]):=zJz zTI n;have hfi:Mt.zHE 1000000000 (c.getD k Mt.jY):=HF.out _ (by rw[lH,lK zTI];exact List.getElem_mem zTI);generalize hI:c.getD k Mt.jY=I at *;clear hI;obtain⟨f1,f2,f3,f4⟩:=hfi;generalize hP:Mt.vF (c.take k) n=P at *;have HP:Hid (Mt.vF (c.take k) n=P):=hP;clear hP;rcases zGl I n with ⟨e1,e⟩ | ⟨e1,e2,e⟩ | ⟨e1,e2,e3,e⟩ | ⟨e1,e2,e3,e4,e⟩ | ⟨e1,e2,e3,e4,e⟩
    all_goals
     have HE:Hid (Mt.fU I n=_):=e;clear e;go_wp2_with (first|(at_builtin;refine wpList_append_own _ rfl _ _ 42 rfl w.heap.size 48 i0 _ 4 40 Tryz.underlying42 hi hz0 hz1 hz2 rfl (by decide) _ _ _ rfl (World.ownsRow.alloc (World.ownsRow.alloc HO.out _) _) ⟨wr.heap.size+1,0,none⟩ 1 1 (kM (Mt.fU I n)) rfl rfl ?_ (zKW _) ?_ ?_ ?_ ?_;rotate_right))
     ·intro v' w1 hown' jL _
      have R1:Hid (zF w1 w.heap.size v' (Mt.vF (c.take (k+1)) n)):=by
       show zF _ _ _ _;rw[HT.out];exact zGk (by rw[hml];exact hown')
      have R2:Below w.heap.size w w1:=((qV.alloc hsz _).alloc (by simp;omega) _).grown jL (by simp;omega) (λq hq'=>(World.ownsRow.lt HO.out q hq').1);clear hown' jL HO HT HP HE
      go_wp2
      go_roundw
      case rel=>exact⟨k+1,by omega,by go_num,R1.out,R2⟩
      case measure=>simp[intOf];omega
     ·rw[HE.out];exact zDl _ _ (by simp) _ _
     ·unfold maxLen;omega
     ·omega
     ·simp;omega
   ·have hk2:k=c.length:=by omega
    have HO2:Hid (zF wr w.heap.size u5 (Mt.vF c n)):=by
     have:=HO.out;rw[hk2,List.take_length]at this;exact this
    clear HO;go_wp2_with fail
    go_ret;exact⟨_,rfl,HO2.out,qV⟩
theorem zCZ{w:World}{base g cap:Nat}{c:List Mt.zTG}(h:zF w base (.slice (some ⟨g,0,none⟩) c.length cap) c):∀j u,(c.flatMap kM)[j]?=some u->w.cell? ((⟨g,0,none⟩:Addr).add j)=some u :=
 World.ownsRow.cells h rfl
theorem zHK{a b:List Mt.zTG}(h:300<a.length):Mt.zO a b=a:=by unfold Mt.zO;rw[if_pos h]
theorem zGn{a b:List Mt.zTG}(h:a.length<=300):Mt.zO a b=a++Mt.vF b a.length:=by unfold Mt.zO;rw[if_neg (by omega)]
theorem zF.join{w:World}{base:Nat}{v:Value}{a b:List Mt.zTG}(h:w.ownsRow base 48 4 v (a.length+b.length) (a.flatMap kM++b.flatMap kM)):zF w base v (a++b):=by
 unfold zF;rw[lM,List.flatMap_append];exact h
theorem jA(a b:List Mt.zTG)(va vb:Value)(w:World)(ha:zF w 0 va a)(hb:zF w 0 vb b)(fa:Mt.fit 900000000 a)(fb:Mt.fit 900000000 b) :
  Calls Tryz.prog 40 #[va,vb] w λe w'=>∃v',e=.returned v'/\zF w' 0 v' (Mt.zO a b)/\Below w.heap.size w w':=by
 have la:=fa.1;have lb:=fb.1;have fb':=Mt.zR fb (show(900000000:Int)<=1000000000 by omega);obtain⟨i0,hi,hz0,hz1,hz2⟩:=info_parts Tryz.info49;have HA:Hid (zF w 0 va a):=ha;have HB:Hid (zF w 0 vb b):=hb;have HF:Hid (Mt.fit 1000000000 b):=fb';clear fa fb fb' hb;have HL:Hid ((Mt.vF b (a.length:Int)).length=b.length):=Mt.yE b (a.length:Int);by_cases zTI:300<a.length
 ·rw[zHK zTI];rcases xE ha with ⟨rfl,_⟩ | ⟨hp,g,cap,rfl,hcap,hg,hgb,hc⟩
  ·simp at zTI
  ·clear hc ha;go_enter Tryz.func40,Tryz.ntmps40
   go_wp2_with fail
   go_ret;exact⟨_,rfl,HA.out,Below.refl _ _⟩
 ·rw[zGn (by omega)];rcases ha.2 with ⟨rfl,hn⟩ | ⟨g,cap,cur,rfl,_,_,_,_,_,_⟩
  ·have hn0:a=[]:=List.length_eq_zero_iff.1 hn;subst hn0;clear ha;go_enter Tryz.func40,Tryz.ntmps40
   go_wp2_with fail
   refine(zGm b _ 0 vb _ HB.out HF.out (by omega) (by omega)).mono ?_;rintro e w1 ⟨v',rfl,hm,zTH⟩;rcases hm.2 with ⟨rfl,hn'⟩ | ⟨g,cap,cur,rfl,_,_,_,_,_,_⟩
   ·have HM:Hid (zF w1 w.heap.size (.slice none 0 0) (Mt.vF b 0)):=hm;clear hm;go_wp2_with (first|(at_builtin;refine wpList_append_own_none rfl (.tmp 15) (.tmp 16) 42 rfl w.heap.size 48 i0 4 Tryz.underlying42 hi _ 0 [] rfl (World.ownsRow_nil _ _ _ _) rfl ?_)|(at_builtin;refine wpList_append_own_none rfl (.tmp 18) (.tmp 19) 42 rfl w.heap.size 48 i0 4 Tryz.underlying42 hi _ 0 [] rfl (World.ownsRow_nil _ _ _ _) rfl ?_))
    go_ret;exact⟨_,rfl,HM.out.base (Nat.zero_le _),zTH⟩
   ·have HM:Hid (zF w1 w.heap.size (.slice (some ⟨g,0,none⟩) (Mt.vF b 0).length cap) (Mt.vF b 0)):=hm;have hsz:=zTH.size;clear hm;go_wp2_with (first|(at_builtin;refine wpList_append_own_none rfl (.tmp 15) (.tmp 16) 42 rfl w.heap.size 48 i0 4 Tryz.underlying42 hi _ 0 [] rfl (World.ownsRow_nil _ _ _ _) rfl ?_)|(at_builtin;refine wpList_append_own _ rfl (.tmp 18) (.tmp 19) 42 rfl w.heap.size 48 i0 _ 4 40 Tryz.underlying42 hi hz0 hz1 hz2 rfl (by decide) _ 0 [] rfl (World.ownsRow_nil _ _ _ _) ⟨g,0,none⟩ _ cap ((Mt.vF b 0).flatMap kM) rfl (nY _) (zCZ HM.out) (wS _) ?_ ?_ ?_ ?_;rotate_right))
    ·intro v2 w2 hown2 jL _;have R1:Hid (zF w2 w.heap.size v2 (Mt.vF b 0)):=by show zF _ _ _ _;simpa[zF]using hown2
     have R2:Below w.heap.size w w2:=zTH.grown jL hsz (λq hq'=>by simp[Value.ownBlock]at hq');clear hown2 jL;go_wp2_with fail
     go_ret;exact⟨_,rfl,R1.out.base (Nat.zero_le _),R2⟩
    ·unfold maxLen;have hl0:=HL.out;simp only[List.length_nil,Int.natCast_zero]at hl0;omega
    ·have hl0:=HL.out;simp only[List.length_nil,Int.natCast_zero]at hl0;omega
    ·omega
  ·have ha':zF w 0 (.slice (some ⟨g,0,none⟩) a.length cap) a:=ha;clear ha;go_enter Tryz.func40,Tryz.ntmps40
   go_wp2_with fail
   refine(zGm b _ 0 vb _ HB.out HF.out (by omega) (by omega)).mono ?_;rintro e w1 ⟨v',rfl,hm,zTH⟩;have hsz:=zTH.size;have HA1:Hid (zF w1 0 (.slice (some ⟨g,0,none⟩) a.length cap) a):=HA.out.below zTH;clear ha';rcases hm.2 with ⟨rfl,hn'⟩ | ⟨g2,cap2,zSZ,rfl,_,_,_,_,_,_⟩
   ·have hb0:Mt.vF b (a.length:Int)=[]:=List.length_eq_zero_iff.1 hn';have HE:Hid (a++Mt.vF b (a.length:Int)=a):=by show _=_;rw[hb0,List.append_nil]
    clear hm hb0;go_wp2_with (first|(at_builtin;refine wpList_append_own _ rfl (.tmp 15) (.tmp 16) 42 rfl w.heap.size 48 i0 _ 4 40 Tryz.underlying42 hi hz0 hz1 hz2 rfl (by decide) _ 0 [] rfl (World.ownsRow_nil _ _ _ _) ⟨g,0,none⟩ _ cap (a.flatMap kM) rfl (nY _) (zCZ HA1.out) (wS _) ?_ ?_ ?_ ?_;rotate_right))
    ·intro v2 w2 hown2 jL _;try simp only[Nat.zero_add,List.nil_append]at hown2
     have R2:Below w.heap.size w w2:=zTH.grown jL hsz (λq hq'=>by simp[Value.ownBlock]at hq');have HO2:Hid (w2.ownsRow w.heap.size 48 4 v2 a.length (a.flatMap kM)):=hown2;clear hown2 jL;go_wp2_with (at_builtin;refine wpList_append_own_none rfl (.tmp 18) (.tmp 19) 42 rfl w.heap.size 48 i0 4 Tryz.underlying42 hi _ _ _ rfl HO2.out rfl ?_)
     go_ret;exact⟨_,rfl,by rw[HE.out];exact jG HO2.out (Nat.zero_le _),R2⟩
    ·unfold maxLen;omega
    ·omega
    ·omega
   ·have HM:Hid (zF w1 w.heap.size (.slice (some ⟨g2,0,none⟩) (Mt.vF b (a.length:Int)).length cap2) (Mt.vF b (a.length:Int))):=hm;clear hm;go_wp2_with (first|(at_builtin;refine wpList_append_own _ rfl (.tmp 15) (.tmp 16) 42 rfl w.heap.size 48 i0 _ 4 40 Tryz.underlying42 hi hz0 hz1 hz2 rfl (by decide) _ 0 [] rfl (World.ownsRow_nil _ _ _ _) ⟨g,0,none⟩ _ cap (a.flatMap kM) rfl (nY _) (zCZ HA1.out) (wS _) ?_ ?_ ?_ ?_;rotate_right))
    ·intro v2 w2 hown2 jL _;try simp only[Nat.zero_add,List.nil_append]at hown2
     have R2:Below w.heap.size w w2:=zTH.grown jL hsz (λq hq'=>by simp[Value.ownBlock]at hq');have zMX:Below w1.heap.size w1 w2:=(Below.refl _ _).grown jL (lG _) (λq hq'=>by simp[Value.ownBlock]at hq');have HM2:Hid (zF w2 w.heap.size (.slice (some ⟨g2,0,none⟩) (Mt.vF b (a.length:Int)).length cap2) (Mt.vF b (a.length:Int))):=HM.out.below zMX;have hsz2:=R2.size;have HO2:Hid (w2.ownsRow w.heap.size 48 4 v2 a.length (a.flatMap kM)):=hown2;clear hown2 jL HM zMX;go_wp2_with (at_builtin;refine wpList_append_own _ rfl (.tmp 18) (.tmp 19) 42 rfl w.heap.size 48 i0 _ 4 40 Tryz.underlying42 hi hz0 hz1 hz2 rfl (by decide) _ _ _ rfl HO2.out ⟨g2,0,none⟩ _ cap2 ((Mt.vF b (a.length:Int)).flatMap kM) rfl (nY _) (zCZ HM2.out) (wS _) ?_ ?_ ?_ ?_;rotate_right)
     ·intro v3 w3 hown3 hgrow3 _;have R3:Hid (zF w3 w.heap.size v3 (a++Mt.vF b (a.length:Int))):=zF.join hown3;have R4:Below w.heap.size w w3:=R2.grown hgrow3 hsz2 (λq hq'=>(World.ownsRow.lt HO2.out q hq').1);clear hown3 hgrow3;go_wp2_with fail
      go_ret;exact⟨_,rfl,R3.out.base (Nat.zero_le _),R4⟩
     ·unfold maxLen;have hl0:=HL.out;omega
     ·have hl0:=HL.out;omega
     ·omega
    ·unfold maxLen;omega
    ·omega
    ·omega
theorem bL(w:World)(b:Nat)(hb:b=w.heap.size)(i:Mt.zTG):zF (w.alloc (.cells #[.int .i64 i.op,.int .i64 i.x,.int .i64 i.y,.string ⟨i.set.toArray⟩] 48)) 0 (.slice (some ⟨b,0,none⟩) 1 1) [i]:=by
 subst hb;refine⟨rfl,.inr ⟨w.heap.size,1,_,rfl,Nat.zero_le _,heap_alloc_new w _,lG _,by unfold maxLen;omega,rfl,?_⟩⟩;rfl
theorem wT{w:World}{base:Nat}{v:Value}{c:List Mt.zTG}(h:zF w base v c):∃ao cap,v=.slice ao c.length cap:=by
 rcases h.2 with ⟨rfl,hn⟩ | ⟨g,cap,cur,rfl,_⟩
 ·exact⟨none,0,by rw[hn]⟩
 ·exact⟨_,_,rfl⟩
theorem zDn(x y:Int)(late:Bool)(w:World) :
  Calls Tryz.prog 68 #[.int .i64 x,.int .i64 y,.bool late] w λe w'=>∃v',e=.returned v'/\zF w' 0 v' (Mt.qR x y late)/\Below w.heap.size w w':=by
 cases late
 ·go_enter Tryz.func68,Tryz.ntmps68
  go_wp2_with fail
  go_ret;exact⟨_,rfl,bL w _ rfl ⟨2,x,y,[]⟩,by go_grown⟩
 ·go_enter Tryz.func68,Tryz.ntmps68
  go_wp2_with fail
  go_ret;exact⟨_,rfl,bL w _ rfl ⟨2,y,x,[]⟩,by go_grown⟩
theorem vZ{M:Int}(o x y:Int)(s:List UInt8)(hx:-M<=x/\x<=M)(hy:-M<=y/\y<=M):Mt.zHE M ⟨o,x,y,s⟩:=⟨hx.1,hx.2,hy.1,hy.2⟩
theorem nN(sort:Int)(c:List Mt.zTG)(v:Value)(w:World)(h:zF w 0 v c)(hf:Mt.fit 800000000 c)(hs0:0<=sort)(hs1:sort<=10) :
  Calls Tryz.prog 135 #[.int .i64 sort,v] w λe w'=>∃v',e=.returned v'/\zF w' 0 v' (Mt.alone sort c)/\Below w.heap.size w w':=by
 have hl:=hf.1;have H:Hid (zF w 0 v c):=h;have F1:Hid (Mt.fit 900000000 c):=Mt.zR hf (by omega);have F2:Hid (Mt.fit 900000000 [(⟨11,sort,(c.length:Int)+2,[]⟩:Mt.zTG)]):=Mt.mU (vZ _ _ _ _ (by omega) (by omega)) (by omega)
 have F3:Hid (Mt.fit 900000000 (Mt.zO [(⟨11,sort,(c.length:Int)+2,[]⟩:Mt.zTG)] c)) :=
  Mt.zR (Mt.vY (Mt.zR (Mt.mU (M:=800000010) (vZ _ _ _ _ (by omega) (by omega)) (by omega)) (Int.le_refl _)) (Mt.zR hf (by omega))) (by omega)
 have F4:Hid (Mt.fit 900000000 [(⟨12,0,0,[]⟩:Mt.zTG)]):=Mt.mU (vZ _ _ _ _ (by omega) (by omega)) (by omega);obtain⟨ao,cap,rfl⟩:=wT h;clear h hf;go_enter Tryz.func135,Tryz.ntmps135
 go_wp2_with fail
 refine(jA [⟨11,sort,(c.length:Int)+2,[]⟩] c _ _ _ (bL w _ rfl _) (H.out.below (by go_grown)) F2.out F1.out).mono ?_;rintro e w1 ⟨v1,rfl,h1,zTH⟩;have H1:Hid (zF w1 0 v1 (Mt.zO [(⟨11,sort,(c.length:Int)+2,[]⟩:Mt.zTG)] c)):=h1;have hB:Below w.heap.size w w1:=((Below.refl _ _).alloc (lG _) _).trans (zTH.mono (by simp));have hsz:=hB.size;clear h1 zTH;go_wp2_with fail
 refine(jA _ [⟨12,0,0,[]⟩] _ _ _ (H1.out.below (by go_grown)) (bL w1 _ rfl _) F3.out F4.out).mono ?_;rintro e w2 ⟨v2,rfl,h2,zTK⟩;have hB2:Below w.heap.size w w2:=(hB.alloc hsz _).trans (zTK.mono (by simp;omega));clear zTK;go_wp2_with fail
 go_ret;exact⟨_,rfl,h2,hB2⟩
theorem zDo{M:Int}(x y:Int)(late:Bool)(hx:-M<=x/\x<=M)(hy:-M<=y/\y<=M)(h1:1<=M):Mt.fit M (Mt.qR x y late):=by
 unfold Mt.qR;cases late
 ·exact Mt.mU (vZ _ _ _ _ hx hy) h1
 ·exact Mt.mU (vZ _ _ _ _ hy hx) h1
theorem zC0(y:List Mt.zTG)(d:Int)(late:Bool)(v:Value)(w:World)(h:zF w 0 v y)(hf:Mt.fit 700000000 y)(hd0:0<=d)(hd1:d<=1000) :
  Calls Tryz.prog 134 #[v,.int .i64 d,.bool late] w λe w'=>∃v',e=.returned v'/\zF w' 0 v' (Mt.pG y d late)/\Below w.heap.size w w':=by
 have hl:=hf.1;have H:Hid (zF w 0 v y):=h;have g1:Mt.fit 700000010 (Mt.qR 1 ((y.length:Int)+3) late):=zDo _ _ _ (by omega) (by omega) (by omega);have g2:Mt.fit 700000010 [(⟨4,d,0,[]⟩:Mt.zTG)]:=Mt.mU (vZ _ _ _ _ (by omega) (by omega)) (by omega);have g3:=Mt.vY g1 g2;have g4:=Mt.vY g3 (Mt.zR hf (show(700000000:Int)<=700000010+300 by omega));have F1:Hid (Mt.fit 900000000 y):=Mt.zR hf (by omega);have F2:Hid (Mt.fit 900000000 (Mt.qR 1 ((y.length:Int)+3) late)):=Mt.zR g1 (by omega);have F3:Hid (Mt.fit 900000000 [(⟨4,d,0,[]⟩:Mt.zTG)]):=Mt.zR g2 (by omega);have F4:Hid (Mt.fit 900000000 (Mt.zO (Mt.qR 1 ((y.length:Int)+3) late) [⟨4,d,0,[]⟩])):=Mt.zR g3 (by omega);have F5:Hid (Mt.fit 900000000 (Mt.zO (Mt.zO (Mt.qR 1 ((y.length:Int)+3) late) [⟨4,d,0,[]⟩]) y)):=Mt.zR g4 (by omega);have F6:Hid (Mt.fit 900000000 [(⟨5,-(y.length:Int)-2,d,[]⟩:Mt.zTG)]):=Mt.mU (vZ _ _ _ _ (by omega) (by omega)) (by omega);clear g1 g2 g3 g4;obtain⟨ao,cap,rfl⟩:=wT h;clear h hf;go_enter Tryz.func134,Tryz.ntmps134
 go_wp2_with fail
 refine(zDn _ _ _ _).mono ?_;rintro e w1 ⟨v1,rfl,h1,zTH⟩;have H1:Hid (zF w1 0 v1 (Mt.qR 1 ((y.length:Int)+3) late)):=h1;have Hy1:Hid (zF w1 0 (.slice ao y.length cap) y):=H.out.below zTH;have hs1:=zTH.size;clear h1 H;go_wp2_with fail
 refine(jA _ [⟨4,d,0,[]⟩] _ _ _ (H1.out.below (by go_grown)) (bL w1 _ rfl _) F2.out F3.out).mono ?_;rintro e w2 ⟨v2,rfl,h2,zTK⟩;have zMX:Below w1.heap.size w1 w2:=((Below.refl _ _).alloc (lG _) _).trans (zTK.mono (by simp));have hB2:Below w.heap.size w w2:=zTH.trans (zMX.mono hs1);have hs2:=hB2.size;have H2:Hid (zF w2 0 v2 (Mt.zO (Mt.qR 1 ((y.length:Int)+3) late) [⟨4,d,0,[]⟩])):=h2;have Hy2:Hid (zF w2 0 (.slice ao y.length cap) y):=Hy1.out.below zMX;clear h2 zTK zMX H1 Hy1 zTH;go_wp2_with fail
 refine(jA _ y _ _ _ H2.out Hy2.out F4.out F1.out).mono ?_;rintro e w3 ⟨v3,rfl,h3,zTL⟩;have hB3:Below w.heap.size w w3:=hB2.trans (zTL.mono hs2);have hs3:=hB3.size;have H3:Hid (zF w3 0 v3 (Mt.zO (Mt.zO (Mt.qR 1 ((y.length:Int)+3) late) [⟨4,d,0,[]⟩]) y)):=h3;clear h3 zTL hB2 H2 Hy2;go_wp2_with fail
 refine(jA _ [⟨5,-(y.length:Int)-2,d,[]⟩] _ _ _ (H3.out.below (by go_grown)) (bL w3 _ rfl _) F5.out F6.out).mono ?_;rintro e w4 ⟨v4,rfl,h4,hb4⟩;have hB4:Below w.heap.size w w4:=(hB3.alloc hs3 _).trans (hb4.mono (by simp;omega));clear hb4;go_wp2_with fail
 go_ret;exact⟨_,rfl,h4,hB4⟩
theorem qN{M:Int}{a b:List Mt.zTG}(ha:Mt.fit (M+300) a)(hb:Mt.fit M b):Mt.fit (M+300) (Mt.zO a b):=by
 unfold Mt.zO;by_cases h:300<a.length
 ·rw[if_pos h];exact ha
 ·rw[if_neg h];refine⟨?_,λi hi=>?_⟩
  ·rw[lM,Mt.yE];have:=hb.1;omega
  ·rcases List.mem_append.1 hi with hi | hi
   ·exact ha.2 i hi
   ·unfold Mt.vF at hi;obtain⟨j,hj,rfl⟩:=List.mem_map.1 hi;exact Mt.zB4 (hb.2 j hj) (by omega) (by omega)
theorem zKX(x:List Mt.zTG)(late:Bool)(k i:Nat)(c:List Mt.zTG)(h:i<k):Mt.pI x late (k-i) c=Mt.pI x late (k-(i+1)) (Mt.zO c (Mt.zO (Mt.qR 1 (((k:Int)-i)*(x.length+1)) late) x)):=by
 rw[show k-i=(k-(i+1))+1 by omega];simp only[Mt.pI];rw[show((k-(i+1):Nat):Int)+1=(k:Int)-i by omega]
theorem zKY(k i:Nat)(L:Nat)(h:i<k)(hk:k<=20)(hL:(L:Int)<=10000000):0<=((k:Int)-i)*((L:Int)+1)/\((k:Int)-i)*((L:Int)+1)<=300000000:=by
 have h1:(0:Int)<=(k:Int)-i:=by omega
 have h2:(k:Int)-i<=20:=by omega
 refine⟨Int.mul_nonneg h1 (by omega),?_⟩;have:=Int.mul_le_mul h2 (show(L:Int)+1<=10000001 by omega) (by omega) (by omega);omega
theorem zNa(x:List Mt.zTG)(k:Nat)(late:Bool)(v:Value)(w:World)(h:zF w 0 v x)(hf:Mt.fit 70000000 x)(hl:(x.length:Int)<=10000000)(hk:k<=20) :
  Calls Tryz.prog 133 #[v,.int .i64 k,.bool late] w λe w'=>∃v',e=.returned v'/\zF w' 0 v' (Mt.upTo x k late)/\Below w.heap.size w w':=by
 have F1:Hid (Mt.fit 70000000 x):=hf;have H:Hid (zF w 0 v x):=h;obtain⟨ao,cap,rfl⟩:=wT h;clear h hf;go_enter Tryz.func133,Tryz.ntmps133
 go_wp2_with fail
 go_loopw [7,8] (λu i wr=>∃(j:Nat) (c:List Mt.zTG),j<=k/\i=.int .i64 j/\zF wr 0 u c/\Mt.fit 400000600 c/\Below w.heap.size w wr/\Mt.upTo x k late=Mt.pI x late (k-j) c) (λ_ i _=>k-(intOf i).toNat)
 case atStart=>exact⟨0,[],Nat.zero_le _,rfl,zF.nil _ _,Mt.fO (by omega),Below.refl _ _,rfl⟩
 case round =>
  obtain⟨j,c,hj,rfl,jS,hfc,qV,hr⟩:=hrel;have HR:Hid (Mt.upTo x k late=Mt.pI x late (k-j) c):=hr;have HO:Hid (zF wr 0 u7 c):=jS;have FC:Hid (Mt.fit 400000600 c):=hfc;have hs0:=qV.size;clear hr jS hfc;by_cases zTI:j<k
  ·have HN:Hid (Mt.upTo x k late=Mt.pI x late (k-(j+1)) (Mt.zO c (Mt.zO (Mt.qR 1 (((k:Int)-j)*(x.length+1)) late) x))):=HR.out.trans (zKX x late k j c zTI);have hm:=zKY k j x.length zTI hk hl;have hm1:=hm.1;have hm2:=hm.2;have Hx:Hid (zF wr 0 (.slice ao x.length cap) x):=H.out.below qV;have g1:Mt.fit 300000000 (Mt.qR 1 (((k:Int)-j)*(x.length+1)) late):=zDo _ _ _ (by omega) (by omega) (by omega);have g2:=Mt.vY g1 (Mt.zR F1.out (show(70000000:Int)<=300000000 by omega));have G1:Hid (Mt.fit 900000000 (Mt.qR 1 (((k:Int)-j)*(x.length+1)) late)):=Mt.zR g1 (by omega);have G2:Hid (Mt.fit 900000000 (Mt.zO (Mt.qR 1 (((k:Int)-j)*(x.length+1)) late) x)):=Mt.zR g2 (by omega);have G3:Hid (Mt.fit 400000600 (Mt.zO c (Mt.zO (Mt.qR 1 (((k:Int)-j)*(x.length+1)) late) x))):=qN (M:=400000300) FC.out (Mt.zR g2 (by omega));have G4:Hid (Mt.fit 900000000 c):=Mt.zR FC.out (by omega);have G5:Hid (Mt.fit 900000000 x):=Mt.zR F1.out (by omega);clear g1 g2 hm HR FC;go_wp2_with fail
   refine(zDn _ _ _ _).mono ?_;rintro e w1 ⟨v1,rfl,h1,zTH⟩;have hB1:Below w.heap.size w w1:=qV.trans (zTH.mono hs0);have hs1:=hB1.size;have H1:Hid (zF w1 0 v1 (Mt.qR 1 (((k:Int)-j)*(x.length+1)) late)):=h1;have Hx1:Hid (zF w1 0 (.slice ao x.length cap) x):=Hx.out.below zTH;have HO1:Hid (zF w1 0 u7 c):=HO.out.below zTH;clear h1 zTH Hx HO qV;go_wp2_with fail
   refine(jA _ x _ _ _ H1.out Hx1.out G1.out G5.out).mono ?_;rintro e w2 ⟨v2,rfl,h2,zTK⟩;have hB2:Below w.heap.size w w2:=hB1.trans (zTK.mono hs1);have hs2:=hB2.size;have H2:Hid (zF w2 0 v2 (Mt.zO (Mt.qR 1 (((k:Int)-j)*(x.length+1)) late) x)):=h2;have HO2:Hid (zF w2 0 u7 c):=HO1.out.below zTK;clear h2 zTK Hx1 HO1 hB1 H1;go_wp2_with fail
   refine(jA c _ _ _ _ HO2.out H2.out G4.out G2.out).mono ?_;rintro e w3 ⟨v3,rfl,h3,zTL⟩;have hB3:Below w.heap.size w w3:=hB2.trans (zTL.mono hs2);have H3:Hid (zF w3 0 v3 (Mt.zO c (Mt.zO (Mt.qR 1 (((k:Int)-j)*(x.length+1)) late) x))):=h3;clear h3 zTL hB2 H2 HO2;go_wp2_with fail
   go_roundw
   case rel=>exact⟨j+1,_,by omega,by go_num,H3.out,G3.out,hB3,HN.out⟩
   case measure=>simp[intOf];omega
  ·have hj2:j=k:=by omega
   have HO2:Hid (zF wr 0 u7 (Mt.upTo x k late)):=by
    show zF _ _ _ _;rw[HR.out,hj2,Nat.sub_self];exact HO.out
   clear HO HR;go_wp2_with fail
   go_ret;exact⟨_,rfl,HO2.out,qV⟩
theorem zDp(t:Mt.zTD):((t.kind==6)=false/\Mt.jO t=false)\/((t.kind==6)=true/\(t.zTF==4)=false/\Mt.jO t=false)\/((t.kind==6)=true/\(t.zTF==4)=true/\Mt.jO t=true):=by
 unfold Mt.jO;simp only[beq_iff_eq,beq_eq_false_iff_ne,decide_eq_true_eq,lJ];omega
theorem zCx(l:List Mt.zTD)(v:Value)(w:World)(h:vN w v l)(hl:l.length<=64) :
  Calls Tryz.prog 37 #[v] w λe w'=>e=.returned (.int .i64 (Mt.zZ l))/\w=w':=by
 rcases dA h with ⟨rfl,ao,cap,rfl⟩ | ⟨hp,g,cap,rfl,hcap,hg,hc⟩
 ·clear h;go_enter Tryz.func37,Tryz.ntmps37
  go_wp2_with fail
  refine wp_loop_rounds 1 ?_;rw[rounds_succ]
  go_wp2
  go_ret;exact⟨rfl,rfl⟩
 ·clear h;have HC:Hid (∀k j,k<l.length->j<7->w.cell? ⟨g,k*7+j,none⟩=(vU (l.getD k Mt.jZ))[j]?):=hc;clear hc;go_enter Tryz.func37,Tryz.ntmps37
  go_wp2_with fail
  go_loop [3,4] (λn i=>∃k:Nat,k<=l.length/\i=.int .i64 k/\n=.int .i64 (Mt.zZ (l.take k))) (λ_ i=>l.length-(intOf i).toNat)
  case atStart=>exact⟨0,Nat.zero_le _,rfl,rfl⟩
  case round =>
   obtain⟨k,hk,rfl,rfl⟩:=hrel;have⟨b1,b2⟩:=Mt.zCO l k;by_cases zTI:k<l.length
   ·have hc0:w.cell? ⟨g,k*7,none⟩=some (.int .i64 (l.getD k Mt.jZ).kind):=HC.out k 0 zTI (by omega);have hc5:w.cell? ⟨g,k*7+5,none⟩=some (.int .i64 (l.getD k Mt.jZ).zTF):=HC.out k 5 zTI (by omega);have hn:Hid (Mt.zZ (l.take (k+1))=Mt.zZ (l.take k)+if Mt.jO (l.getD k Mt.jZ)then 1 else 0):=Mt.nH l k zTI;generalize hT:l.getD k Mt.jZ=T at *;clear hT;rcases zDp T with ⟨e1,e3⟩ | ⟨e1,e2,e3⟩ | ⟨e1,e2,e3⟩
    all_goals
     have hn':Hid (Mt.zZ (l.take (k+1))=Mt.zZ (l.take k)+if Mt.jO T then 1 else 0):=hn;have e3':Hid (Mt.jO T=_):=e3;clear e3 hn
     go_wp2
     go_round
     case rel=>exact⟨k+1,by omega,by go_num,by first|(rw[hn'.out,e3'.out];simp;done)|(rw[hn'.out,e3'.out];go_num)⟩
     case measure=>simp[intOf];omega
   ·have:k=l.length:=by omega
    subst this
    go_wp2
    go_ret;exact⟨tQ (by first | rfl | rw[List.take_length]),rfl⟩
theorem zBl(l:List Mt.zTD)(i:Nat)(v:Value)(w:World)(h:vN w v l)(hl:l.length<=64)(hi:i<=l.length) :
  Calls Tryz.prog 104 #[v,.int .i64 i] w λe w'=>e=.returned (.int .i64 (Mt.jH l i))/\w=w':=by
 rcases dA h with ⟨rfl,ao,cap,rfl⟩ | ⟨hp,g,cap,rfl,hcap,hg,hc⟩
 ·clear h;have:i=0:=by simpa using hi
  subst this;go_enter Tryz.func104,Tryz.ntmps104
  go_wp2_with fail
  refine wp_loop_rounds 1 ?_;rw[rounds_succ]
  go_wp2
  go_ret;exact⟨rfl,rfl⟩
 ·clear h;have HC:Hid (∀k j,k<l.length->j<7->w.cell? ⟨g,k*7+j,none⟩=(vU (l.getD k Mt.jZ))[j]?):=hc;clear hc;go_enter Tryz.func104,Tryz.ntmps104
  go_wp2_with fail
  go_loop [5,6] (λn j=>∃(k:Nat) (x:Int),i<=k/\k<=l.length/\-(k:Int)<=x/\x<=k/\j=.int .i64 k/\n=.int .i64 x/\Mt.jH l i=Mt.jB (l.drop k) x k) (λ_ j=>l.length-(intOf j).toNat)
  case atStart=>exact⟨i,0,lG _,hi,by omega,by omega,rfl,rfl,rfl⟩
  case round =>
   obtain⟨k,x,hik,hk,b1,b2,rfl,rfl,hr⟩:=hrel;have H:Hid (Mt.jH l i=Mt.jB (l.drop k) x k):=hr;clear hr;by_cases zTI:k<l.length
   ·have hc0:w.cell? ⟨g,k*7,none⟩=some (.int .i64 (l.getD k Mt.jZ).kind):=HC.out k 0 zTI (by omega);have hn:Hid (Mt.jH l i=if x+Mt.jW (l.getD k Mt.jZ)=0 then k else Mt.jB (l.drop (k+1)) (x+Mt.jW (l.getD k Mt.jZ)) (k+1)):=H.out.trans (Mt.zEk l x k zTI);generalize hT:l.getD k Mt.jZ=T at *;clear hT H;rcases zDm T with ⟨e1,e2,e3⟩ | ⟨e1,e2,e3⟩ | ⟨e1,e2,e3⟩
    ·cases hz:(x+1==0)
     ·have R:Hid (Mt.jH l i=Mt.jB (l.drop (k+1)) (x+1) (k+1)):=by show _=_;rw[hn.out,e3,if_neg (by simpa using hz)]
      clear e3 hn
      go_wp2
      go_round
      case rel=>exact⟨k+1,x+1,by omega,by omega,by omega,by omega,by go_num,rfl,R.out⟩
      case measure=>simp[intOf];omega
     ·have R:Hid (Mt.jH l i=k):=by show _=_;rw[hn.out,e3,if_pos (by simpa using hz)]
      clear e3 hn
      go_wp2
      go_ret;exact⟨tQ (by rw[R.out]),rfl⟩
    ·cases hz:(x-1==0)
     ·have R:Hid (Mt.jH l i=Mt.jB (l.drop (k+1)) (x-1) (k+1)):=by show _=_;rw[hn.out,e3,if_neg (by simp at hz;omega)];rfl
      clear e3 hn
      go_wp2
      go_round
      case rel=>exact⟨k+1,x-1,by omega,by omega,by omega,by omega,by go_num,rfl,R.out⟩
      case measure=>simp[intOf];omega
     ·have R:Hid (Mt.jH l i=k):=by show _=_;rw[hn.out,e3,if_pos (by simp at hz;omega)]
      clear e3 hn
      go_wp2
      go_ret;exact⟨tQ (by rw[R.out]),rfl⟩
    ·cases hz:(x==0)
     ·have R:Hid (Mt.jH l i=Mt.jB (l.drop (k+1)) x (k+1)):=by show _=_;rw[hn.out,e3,if_neg (by simp at hz;omega),Int.add_zero]
      clear e3 hn
      go_wp2
      go_round
      case rel=>exact⟨k+1,x,by omega,by omega,by omega,by omega,by go_num,rfl,R.out⟩
      case measure=>simp[intOf];omega
     ·have R:Hid (Mt.jH l i=k):=by show _=_;rw[hn.out,e3,if_pos (by simp at hz;omega)]
      clear e3 hn
      go_wp2
      go_ret;exact⟨tQ (by rw[R.out]),rfl⟩
   ·have hk2:k=l.length:=by omega
    have R:Hid (Mt.jH l i=l.length):=by show _=_;rw[H.out,hk2,List.drop_length];rfl
    clear H hk2
    go_wp2
    go_ret;exact⟨tQ (by rw[R.out]),rfl⟩
theorem zJA(l:List Mt.zTD)(c:Int)(v:Value)(w:World)(h:vN w v l)(hl:l.length<=64) :
  Calls Tryz.prog 64 #[v,.int .i64 c] w λe w'=>e=.returned (.bool (Mt.closed l c))/\w=w':=by
 have hk:=h;rcases dA h with ⟨rfl,ao,cap,rfl⟩ | ⟨hp,g,cap,rfl,hcap,hg,hc⟩
 ·clear h hk;go_enter Tryz.func64,Tryz.ntmps64
  go_wp2_with fail
  refine wp_loop_rounds 1 ?_;rw[rounds_succ]
  go_wp2
  go_ret;exact⟨rfl,rfl⟩
 ·clear h;have HK:Hid (vN w (.slice (some ⟨g,0,none⟩) l.length cap) l):=hk;clear hk;have HC:Hid (∀k j,k<l.length->j<7->w.cell? ⟨g,k*7+j,none⟩=(vU (l.getD k Mt.jZ))[j]?):=hc;clear hc;go_enter Tryz.func64,Tryz.ntmps64
  go_wp2_with fail
  go_loop [5] (λj=>∃k:Nat,k<=l.length/\j=.int .i64 k/\Mt.closed l c=Mt.vE l c (l.drop k) k) (λj=>l.length-(intOf j).toNat)
  case atStart=>exact⟨0,Nat.zero_le _,rfl,rfl⟩
  case round =>
   obtain⟨k,hk,rfl,hr⟩:=hrel;have H:Hid (Mt.closed l c=Mt.vE l c (l.drop k) k):=hr;clear hr;by_cases zTI:k<l.length
   ·have hc0:w.cell? ⟨g,k*7,none⟩=some (.int .i64 (l.getD k Mt.jZ).kind):=HC.out k 0 zTI (by omega);have hc5:w.cell? ⟨g,k*7+5,none⟩=some (.int .i64 (l.getD k Mt.jZ).zTF):=HC.out k 5 zTI (by omega);have hc3:w.cell? ⟨g,k*7+3,none⟩=some (.int .i64 (l.getD k Mt.jZ).n):=HC.out k 3 zTI (by omega);have hn:Hid (Mt.closed l c=if Mt.jO (l.getD k Mt.jZ)=true/\(l.getD k Mt.jZ).n=c then decide (Mt.jH l k<l.length)else Mt.vE l c (l.drop (k+1)) (k+1)):=H.out.trans (Mt.zAu l c k zTI);generalize hT:l.getD k Mt.jZ=T at *;clear hT H;rcases zDp T with ⟨e1,e3⟩ | ⟨e1,e2,e3⟩ | ⟨e1,e2,e3⟩
    ·have R:Hid (Mt.closed l c=Mt.vE l c (l.drop (k+1)) (k+1)):=by show _=_;rw[hn.out,e3];simp
     clear e3 hn;go_wp2_with fail
     go_round
     case rel=>exact⟨k+1,by omega,by go_num,R.out⟩
     case measure=>simp[intOf];omega
    ·have R:Hid (Mt.closed l c=Mt.vE l c (l.drop (k+1)) (k+1)):=by show _=_;rw[hn.out,e3];simp
     clear e3 hn;go_wp2_with fail
     go_round
     case rel=>exact⟨k+1,by omega,by go_num,R.out⟩
     case measure=>simp[intOf];omega
    ·cases hz:(T.n==c)
     ·have R:Hid (Mt.closed l c=Mt.vE l c (l.drop (k+1)) (k+1)):=by show _=_;rw[hn.out,e3,if_neg (by simp at hz;simp[hz])]
      clear e3 hn;go_wp2_with fail
      go_round
      case rel=>exact⟨k+1,by omega,by go_num,R.out⟩
      case measure=>simp[intOf];omega
     ·have R:Hid (Mt.closed l c=decide (Mt.jH l k<l.length)):=by show _=_;rw[hn.out,e3,if_pos (by simp at hz;simp[hz])]
      clear e3 hn;go_wp2_with (first|(go_at_call 104;refine(zBl l _ _ _ HK.out hl (by omega)).mono ?_;rintro e w' ⟨rfl,rfl⟩))
      go_ret;exact⟨jC (by rw[R.out]),rfl⟩
   ·have hk2:k=l.length:=by omega
    have R:Hid (Mt.closed l c=false):=by show _=_;rw[H.out,hk2,List.drop_length];rfl
    clear H hk2;go_wp2_with fail
    go_ret;exact⟨jC (by rw[R.out]),rfl⟩
theorem last_at(l:List Mt.zTD)(h:0<l.length):l.getLast?=some (l.getD (l.length-1) Mt.jZ):=by
 rw[List.getLast?_eq_getElem?,lH,lK (by omega)];rfl
theorem zJB(k:Int):((k==1)=true/\decide (k=1\/k=2\/k=3\/k=4\/k=7)=true)\/((k==1)=false/\(k==2)=true/\decide (k=1\/k=2\/k=3\/k=4\/k=7)=true) \/
  ((k==1)=false/\(k==2)=false/\(k==3)=true/\decide (k=1\/k=2\/k=3\/k=4\/k=7)=true) \/
  ((k==1)=false/\(k==2)=false/\(k==3)=false/\(k==4)=true/\decide (k=1\/k=2\/k=3\/k=4\/k=7)=true) \/
  ((k==1)=false/\(k==2)=false/\(k==3)=false/\(k==4)=false/\(k==7)=true/\decide (k=1\/k=2\/k=3\/k=4\/k=7)=true) \/
  ((k==1)=false/\(k==2)=false/\(k==3)=false/\(k==4)=false/\(k==7)=false/\decide (k=1\/k=2\/k=3\/k=4\/k=7)=false):=by
 simp only[beq_iff_eq,beq_eq_false_iff_ne,decide_eq_true_eq,lJ];omega
theorem zGo(l:List Mt.zTD)(v:Value)(w:World)(h:vN w v l)(hl:l.length<=64) :
  Calls Tryz.prog 65 #[v] w λe w'=>e=.returned (.bool (Mt.xD l))/\w=w':=by
 rcases dA h with ⟨rfl,ao,cap,rfl⟩ | ⟨hp,g,cap,rfl,hcap,hg,hc⟩
 ·clear h;go_enter Tryz.func65,Tryz.ntmps65
  go_wp2
  go_ret;exact⟨rfl,rfl⟩
 ·clear h;have hc0:w.cell? ⟨g,(l.length-1)*7,none⟩=some (.int .i64 (l.getD (l.length-1) Mt.jZ).kind):=hc (l.length-1) 0 (by omega) (by omega);clear hc
  have e:Mt.xD l=decide ((l.getD (l.length-1) Mt.jZ).kind=1\/(l.getD (l.length-1) Mt.jZ).kind=2\/(l.getD (l.length-1) Mt.jZ).kind=3\/(l.getD (l.length-1) Mt.jZ).kind=4\/(l.getD (l.length-1) Mt.jZ).kind=7):=by
   unfold Mt.xD;rw[last_at l hp]
  rw[e];clear e;generalize hT:l.getD (l.length-1) Mt.jZ=T at *;clear hT;rcases zJB T.kind with ⟨e1,e⟩ | ⟨e1,e2,e⟩ | ⟨e1,e2,e3,e⟩ | ⟨e1,e2,e3,e4,e⟩ | ⟨e1,e2,e3,e4,e5,e⟩ | ⟨e1,e2,e3,e4,e5,e⟩
  all_goals
   rw[e];clear e;go_enter Tryz.func65,Tryz.ntmps65
   go_wp2
   go_ret;exact⟨rfl,rfl⟩
theorem zDq(l:List Mt.zTD)(i:Nat)(v:Value)(w:World)(h:vN w v l)(hl:l.length<=64)(hi:i<l.length) :
  Calls Tryz.prog 105 #[v,.int .i64 i] w λe w'=>e=.returned (.int .i64 (Mt.after l i))/\w=w':=by
 have hcl:=Mt.zB3 l i (by omega);have HK:Hid (vN w v l):=h;rcases dA h with ⟨rfl,ao,cap,rfl⟩ | ⟨hp,g,cap,rfl,hcap,hg,hc⟩
 ·simp at hi
 ·have hc0:w.cell? ⟨g,i*7,none⟩=some (.int .i64 (l.getD i Mt.jZ).kind):=hc i 0 hi (by omega);clear hc h;have e:Mt.after l i=if(l.getD i Mt.jZ).kind=6 then Mt.jH l i+1 else i+1:=rfl
  rw[e];clear e;generalize hT:(l.getD i Mt.jZ).kind=T at *;clear hT;cases hk:(T==6)
  ·rw[if_neg (by simpa using hk)];go_enter Tryz.func105,Tryz.ntmps105
   go_wp2_with fail
   go_ret;exact⟨tQ (by omega),rfl⟩
  ·rw[if_pos (by simpa using hk)];go_enter Tryz.func105,Tryz.ntmps105
   go_wp2_with (first|(go_at_call 104;refine(zBl l _ _ _ HK.out hl (by omega)).mono ?_;rintro e w' ⟨rfl,rfl⟩))
   go_ret;exact⟨tQ (by omega),rfl⟩
theorem zKZ(l:List Mt.zTD)(a b:Nat)(v:Value)(w:World)(h:vN w v l)(hl:l.length<=64)(ha:a<=100)(hb:b<=l.length) :
  Calls Tryz.prog 66 #[v,.int .i64 a,.int .i64 b] w λe w'=>e=.returned (.int .i64 (Mt.bar l a b))/\w=w':=by
 have HK:Hid (vN w v l):=h;rcases dA h with ⟨rfl,ao,cap,rfl⟩ | ⟨hp,g,cap,rfl,hcap,hg,hc⟩
 ·have hb0:b=0:=by simpa using hb
  subst hb0;clear h;have e:Mt.bar [] a 0=0:=by rw[Mt.dR,if_pos (by omega)]
  rw[e];clear e;go_enter Tryz.func66,Tryz.ntmps66
  go_wp2_with fail
  refine wp_loop_rounds 1 ?_;rw[rounds_succ];go_wp2_with fail
  go_ret;exact⟨rfl,rfl⟩
 ·have HC:Hid (∀k j,k<l.length->j<7->w.cell? ⟨g,k*7+j,none⟩=(vU (l.getD k Mt.jZ))[j]?):=hc;clear hc h;go_enter Tryz.func66,Tryz.ntmps66
  go_wp2_with fail
  go_loop [7] (λi=>∃k:Nat,k<=200/\i=.int .i64 k/\Mt.bar l a b=Mt.bar l k b) (λi=>b-(intOf i).toNat)
  case atStart=>exact⟨a,by omega,rfl,rfl⟩
  case round =>
   obtain⟨k,hk,rfl,hr⟩:=hrel;have H:Hid (Mt.bar l a b=Mt.bar l k b):=hr;clear hr;by_cases zTI:k<b
   ·have hc0:w.cell? ⟨g,k*7,none⟩=some (.int .i64 (l.getD k Mt.jZ).kind):=HC.out k 0 (by omega) (by omega);have hcl:=Mt.zB3 l k (by omega);have hcg:=Mt.nL l k
    have zTJ:Mt.bar l a b=if(l.getD k Mt.jZ).kind=5 then k else if(l.getD k Mt.jZ).kind=6 then Mt.bar l (Mt.jH l k+1) b else Mt.bar l (k+1) b:=by
     rw[H.out,Mt.dR,if_neg (by omega)];rfl
    generalize hT:(l.getD k Mt.jZ).kind=T at *;clear hT H;cases h5:(T==5)
    ·rw[if_neg (by simpa using h5)]at zTJ;cases h6:(T==6)
     ·rw[if_neg (by simpa using h6)]at zTJ;have R:Hid (Mt.bar l a b=Mt.bar l (k+1) b):=zTJ;clear zTJ;go_wp2_with fail
      go_round
      case rel=>exact⟨k+1,by omega,by go_num,R.out⟩
      case measure=>simp[intOf];omega
     ·rw[if_pos (by simpa using h6)]at zTJ;have R:Hid (Mt.bar l a b=Mt.bar l (Mt.jH l k+1) b):=zTJ;clear zTJ;go_wp2_with (first|(go_at_call 104;refine(zBl l _ _ _ HK.out hl (by omega)).mono ?_;rintro e w' ⟨rfl,rfl⟩))
      go_round
      case rel=>exact⟨Mt.jH l k+1,by omega,by go_num,R.out⟩
      case measure=>simp[intOf];omega
    ·rw[if_pos (by simpa using h5)]at zTJ;have R:Hid (Mt.bar l a b=k):=zTJ;clear zTJ;go_wp2_with fail
     go_ret;exact⟨tQ (by rw[R.out]),rfl⟩
   ·have R:Hid (Mt.bar l a b=b):=by show _=_;rw[H.out,Mt.dR,if_pos (by omega)]
    clear H;go_wp2_with fail
    go_ret;exact⟨tQ (by rw[R.out]),rfl⟩
