import Derived.Test.YtebpgfodelggoaaGreatC17
import Derived.Test.YtebpgfodelggoaaGreatC27
import Derived.Test.YtebpgfodelggoaaGreatC26
set_option linter.all false
set_option maxRecDepth 100000
set_option maxHeartbeats 8000000
namespace Go.Proofs.YtebpgfodelggoaaGreat
open Go.RowKit _root_.Go.Proofs.Tryz Mt
def jw(o:Oc):List Value:=Value.int .i64 (o.1:Int)::o.2.map (Value.int .i64)
def qG(o:Oc):Array Value:=(jw o).toArray
theorem xK o(h:o.2.length=20):(jw o).length=21:=by simp[jw,h]
theorem dA o(h:o.2.length=20):(qG o).size=21:=by simp[qG,jw,h]
theorem Gv o:∀u∈jw o,u.oneCell'=true:=by
 intro u h;simp only[jw,oH,uY]at h;rcases h with rfl | ⟨x,_,rfl⟩ <;> rfl
theorem zEy o:(qG o).all (·.oneCell')=true:=by
 unfold qG;rw[wH,iO];exact Gv o
theorem LD o:(qG o)[0]?=some (.int .i64 (o.1:Int)):=rfl
theorem Ip o(h:o.2.length=20) k(G:k<20):(qG o)[1+k]?=some (.int .i64 (o.2.getD k 0)):=by
 unfold qG jw;rw[oI,wD,gI,gN,lN (by omega),lH,lN (by omega)];rfl
def xI:Oc:=(0,List.replicate 20 0)
theorem PN:(prog.info? 66).map (λi=>(i.zero,i.size,i.bytes))=some (some (.agg (qG xI)),21,168):=by kernel_rfl
theorem xL:(prog.info? 66).map (·.size)=some 21:=by kernel_rfl
theorem zFo{l:List Int}(h:l.length=20):∃a0 a1 a2 a3 a4 a5 a6 a7 a8 a9 a10 a11 a12 a13 a14 a15 a16 a17 a18 a19,l=[a0,a1,a2,a3,a4,a5,a6,a7,a8,a9,a10,a11,a12,a13,a14,a15,a16,a17,a18,a19]:=by
 match l,h with
 | [a0,a1,a2,a3,a4,a5,a6,a7,a8,a9,a10,a11,a12,a13,a14,a15,a16,a17,a18,a19],_=>exact⟨a0,a1,a2,a3,a4,a5,a6,a7,a8,a9,a10,a11,a12,a13,a14,a15,a16,a17,a18,a19,rfl⟩
theorem PO o(G:o.2.length=20){h:TypeInfo}(I:h.size=21):Instr.fill (λi=>some (i*h.size,h.size)) ((Array.range (1*h.size)).map ((Value.agg (qG xI)).cells[· % (Value.agg (qG xI)).cells.size]!)) [(0,.agg (qG o))]=some (qG o):=by
 rw[I];obtain⟨p,l⟩:=o;obtain⟨J,U,a7,a8,a9,b0,b1,b2,b3,b4,W,Y,Z,a0,a1,a2,a3,a4,a5,a6,e⟩:=zFo G;dsimp only at e;subst e;kernel_rfl
theorem bD{I}{J}{h}{a}{w}{Q}(Y:h.guard=none)(x)(a0:h.op=.buildSlice 62 1 #[(0,x)])(o)(W:o.2.length=20)(a1:a.eval x=.agg (qG o))
  (U:wpList prog I Q J (a.put h.dst (.slice (some ⟨w.heap.size,0,none⟩) 1 1)) (w.alloc (.cells (qG o) 66))):wpList prog I Q (h::J) a w:=by
 obtain⟨a3,Z,a2,G,a4⟩:=sK PN;refine wpList_buildSlice Y 62 66 1 _ a0 (qG o) a3 _ underlying62 Z a2 (by rw[G];decide) (by rw[G];decide) ?_ U;simp only[rU,oZ,sO,a1];exact PO o W G
theorem bK{G}{I}{h}{a}{w}{Q}(W:h.guard=none)(x)(Y:h.op=.load 66 x)
  (b) (a0:a.eval x=.pointer (some ⟨b,0,none⟩)) {t} {A} (U:w.heap[b]?=some (.cells A t (0,0))) (Z:A.size=21)
  (J:wpList prog G Q I (a.put h.dst (.agg A)) w):wpList prog G Q (h::I) a w:=
 kY 66 21 underlying66 rfl xL W x Y b a0 U Z J
def xX(w:World)(base:Nat)(v:Value)(l:List Oc):Prop:=w.ownsRow base 66 21 v l.length (l.flatMap jw)
def EI(l:List Oc):Prop:=∀x∈l,x.2.length=20
theorem WH:∀l,EI l->(l.flatMap jw).length=l.length*21
 | [],_=>rfl
 | f::r,h=>by
  rw[gT,lQ,WH r (λg G=>h g (uT _ G)),xK f (h f (iA ..)),lU];omega
theorem WI:∀l,EI l->∀k j,k<l.length->j<21->(l.flatMap jw)[k*21+j]?=(jw (l.getD k xI))[j]?
 | [],_,k,j,hk,_=>by simp at hk
 | f::r,h,0,j,hk,hj=>by
  rw[gT,gK (by rw[xK f (h f (iA ..))];omega)];simp
 | f::r,h,k+1,j,hk,hj=>by
  have I:=xK f (h f (iA ..));rw[gT,gL (by omega),I,show(k+1)*21+j-21=k*21+j by omega];rw[WI r (λg G=>h g (uT _ G)) k j (by simp at hk;omega) hj];simp
theorem dB{l:List Oc}{k}(h:k<l.length):l.getD k xI∈l:=by
 rw[lH,lN h];exact uK h
theorem dU{w base v l}(h:xX w base v l):∃ao cap,v=.slice ao l.length cap:=by
 rcases h.2 with ⟨rfl,G⟩ | ⟨g,cap,I,rfl,_⟩
 ·exact⟨none,0,by rw[G]⟩
 ·exact⟨_,_,rfl⟩
theorem DK{w base v l}(I:xX w base v l)(G:EI l){k}(h:k<l.length):
  ∃g cap,v=.slice (some ⟨g,0,none⟩) l.length cap/\l.length<=cap/\base<=g/\g<w.heap.size/\w.rangeAt g (k*21) (jw (l.getD k xI)):=by
 have a0:=qP I (gD _);rcases I.2 with ⟨rfl,a7⟩ | ⟨g,cap,a2,rfl,W,Z,U,a3,a4,a5⟩
 ·omega
 ·refine⟨g,cap,rfl,U,W,(lM.1 Z).1,λj u J=>?_⟩;have a6:=WH l G
  have a1:j<21:=by
   have:=(iT.1 J).1;rw[xK _ (G _ (dB h))]at this;exact this
  have Y:=gU a0 (k*21+j) (by
   have:(k+1)*21<=l.length*21:=oO _ h;rw[oV]at this;omega)
  rw[Y,WI l G k j h a1];exact J
theorem Sd{w}{base}{v}{l}{t}(h:w.ownsRow base 66 21 v (l.length+1) (l.flatMap jw++jw t)):xX w base v (l++[t]):=by
 unfold xX;rw[lQ,wU];simpa using h
theorem PU{w:World}{base}(G:base<=w.heap.size) o(h:o.2.length=20):xX (w.alloc (.cells (qG o) 66)) base (.slice (some ⟨w.heap.size,0,none⟩) 1 1) [o]:=by
 have:=World.ownsRow_lit (base:=base) (e:=66) (size:=21) w (qG o) 1 G (by unfold maxLen;omega) (by rw[dA o h]);unfold xX;simpa[qG]using this
section
variable {mb:Nat}
structure jF (B:Nat->Prop) (w w':World):Prop where
 os:w'.os=w.os
 tape:w'.tape=w.tape
 output:w'.output=w.output
 size:w.heap.size<=w'.heap.size
 block:∀k,k<w.heap.size->¬B k->w'.heap[k]?=w.heap[k]?
theorem jF.refl B w:jF B w w:=⟨rfl,rfl,rfl,lF _,λ_ _ _=>rfl⟩
theorem jF.trans{B C a b c}(h:jF B a b)(k:jF C b c)(J:∀i,i<a.heap.size->C i->B i):jF B a c:=
 ⟨k.os.trans h.os,k.tape.trans h.tape,k.output.trans h.output,gX h.size k.size,λi G I=>(k.block i (rF G h.size) (λe=>I (J i G e))).trans (h.block i G I)⟩
theorem jF.below{B a b}(h:Below a.heap.size a b):jF B a b:=⟨h.os,h.tape,h.output,h.size,λi G _=>h.block i G⟩
theorem jF.Jy{B a b c}(h:jF B a b)(k:Below b.heap.size b c):jF B a c:=h.trans (C:=B) (jF.below k) (λ_ _ e=>e)
theorem jF.mono{B C a b}(h:jF B a b)(I:∀i,i<a.heap.size->B i->C i):jF C a b:=⟨h.os,h.tape,h.output,h.size,λi G e=>h.block i G (λx=>e (I i G x))⟩
theorem jF.alloc{B a w}(h:jF B a w) o:jF B a (w.alloc o):=h.Jy ((lK _ _).alloc (lF _) o)
theorem jF.drew{B a w}(h:jF B a w):jF B a w.drew:=h.Jy (lK _ _).drew
theorem jF.set{B a w}(h:jF B a w){p}(G:B p.block\/a.heap.size<=p.block) u:jF B a (w.setCell p u):=
 ⟨h.os,h.tape,h.output,by have:=h.size;simpa[World.setCell]using this,λi J I=>by
  rw[lS _ _ _ _ (λe=>by subst e;rcases G with G | G;exact I G;omega)];exact h.block i J I⟩
theorem jF.grown{B a w w' W}(h:jF B a w)(G:w.grownBy w' W)(Y:∀k,W=some k->B k\/a.heap.size<=k):jF B a w':=
 ⟨G.os.trans h.os,G.tape.trans h.tape,G.output.trans h.output,gX h.size G.size,λi J I=>by
  rw[G.block i (rF J h.size) (λe=>by rcases Y i e.symm with U | U;exact I U;omega)];exact h.block i J I⟩
theorem jF.toBelow{B a b L}(h:jF B a b)(I:L<=a.heap.size)(G:∀k,B k->L<=k):Below L a b:=
 ⟨h.os,h.tape,h.output,h.size,λk J=>h.block k (by omega) (λe=>by have:=G k e;omega)⟩
theorem qX{B w w' base e s v n xs}(h:w.ownsRow base e s v n xs)(Y:jF B w w')(W:∀k,v.ownBlock=some k->¬B k):w'.ownsRow base e s v n xs:=by
 have a0:=lY h;refine⟨h.1,?_⟩;rcases h.2 with J | ⟨g,cap,I,rfl,U,G,Z⟩
 ·exact .inl J
 ·exact .inr ⟨g,cap,I,rfl,U,by rw[Y.block g (lM.1 G).1 (W g rfl)];exact G,Z⟩
end
structure jU (w:World) (mb:Nat) (tv:Value) (l:List zU) (t:BA) (n:Nat):Prop where
 cell:w.heap[mb]?=some (.cells #[tv,.string t,.int .i64 (n:Int)] 61 (0,0))
 tk:nH w tv l
 ap:tv.ownBlock≠some mb
theorem jU.lt{w mb tv l t n}(h:jU w mb tv l t n):mb<w.heap.size:=(lM.1 h.cell).1
theorem jU.keep{B w w' mb tv l t n}(h:jU w mb tv l t n)(G:jF B w w')(I:¬B mb)(J:∀k,tv.ownBlock=some k->¬B k):jU w' mb tv l t n:=
 ⟨by rw[G.block mb h.lt I];exact h.cell,qX h.tk G J,h.ap⟩
theorem jU.below{w w' mb tv l t n}(h:jU w mb tv l t n)(G:Below w.heap.size w w'):jU w' mb tv l t n:=
 h.keep (B:=λ_=>False) (jF.below G) (λe=>e) (λ_ _ e=>e)
theorem jU.set{w mb tv l t n}(h:jU w mb tv l t n)(m:Nat):jU (w.setCell ⟨mb,2,none⟩ (.int .i64 (m))) mb tv l t m:=
 ⟨by have:=lX w mb 2 _ _ (.int .i64 (m:Int)) h.cell;rw[this];rfl,
 qX h.tk (B:=λk=>k=mb) (jF.set (jF.refl (λk=>k=mb) w) (p:=⟨mb,2,none⟩) (.inl rfl) _) (λk G e=>h.ap (by rw[G,e])),h.ap⟩
theorem jU.cells{w mb tv l t n}(h:jU w mb tv l t n):w.cell? ⟨mb,0,none⟩=some tv/\w.cell? ⟨mb,1,none⟩=some (.string t)/\w.cell? ⟨mb,2,none⟩=some (.int .i64 (n))/\(∀o,w.frozen? ⟨mb,o,none⟩=false):=
 ⟨(zB h.cell).1 0,(zB h.cell).1 1,(zB h.cell).1 2,(zB h.cell).2⟩
theorem Gw{w mb tv l t n}(h:jU w mb tv l t n):
  Calls prog 26 #[.pointer (some ⟨mb,0,none⟩)] w λe w'=>e=.returned (.bool (decide ((n:Int)>300000)))/\w=w':=by
 obtain⟨G,I,U,J⟩:=h.cells;clear h J G I
 go_in
 go_wp2_with fail
 go_ret;exact⟨rfl,rfl⟩
theorem zE7{a b:Oc}(U:a.2.length=20)(W:b.2.length=20)(G:a.1=b.1)(h:∀k,k<20->a.2.getD k 0=b.2.getD k 0):a=b:=by
 obtain⟨p,l⟩:=a;obtain⟨q,m⟩:=b;dsimp only at *;subst G;congr 1;apply rY (by omega);intro i I J;have:=h i (by omega);rw[lH,lH,lN I,lN J]at this;simpa using this
theorem Sg a b(a9:a.2.length=20)(b1:b.2.length=20) w:
  Calls prog 88 #[.agg (qG a),.agg (qG b)] w λe w'=>e=.returned (.bool (decide (a=b)))/\Below w.heap.size w w':=by
 have b6:=hid (λk Y=>Ip a a9 k Y);have b7:=hid (λk Y=>Ip b b1 k Y);have a0:=hid (LD a);have a1:=hid (LD b);have b4:=hid (λU h=>zE7 a9 b1 U h);have a3:Hid (a.1≠b.1->decide (a=b)=false):=λh=>by simp;intro e;exact h (by rw[e])
 have b9:Hid (∀k,a.2.getD k 0≠b.2.getD k 0->decide (a=b)=false):=λk h=>by simp;intro e;exact h (by rw[e])
 generalize qG a=A at *;generalize qG b=B at *;cases U:((a.1:Int) != (b.1:Int))
 ·have b3:a.1=b.1:=by simp at U;omega
  have c1:=hid b3;clear b3 a3
  go_in
  have G:((w.alloc (.cells A 66)).alloc (.cells B 66)).heap[w.heap.size]?=some (.cells A 66 (0,0)):=nN _ _ _;have I:((w.alloc (.cells A 66)).alloc (.cells B 66)).heap[w.heap.size+1]?=some (.cells B 66 (0,0)):=nA _ _ _;have W:Below w.heap.size w ((w.alloc (.cells A 66)).alloc (.cells B 66)):=((lK _ _).alloc (lF _) _).alloc (by simp) _;have s1:((w.alloc (.cells A 66)).alloc (.cells B 66)).heap.size=w.heap.size+1+1:=by simp
  go_upto_region 1 with fail
  generalize ((w.alloc (.cells A 66)).alloc (.cells B 66))=z at *;have c4:w.heap.size<z.heap.size:=by omega
  have c5:w.heap.size+1<z.heap.size:=by omega
  have a6:z.cell? ⟨w.heap.size,0,none⟩=some (.int .i64 (a.1:Int)):=((zB G).1 _).trans a0.o;have a7:z.cell? ⟨w.heap.size+1,0,none⟩=some (.int .i64 (b.1:Int)):=((zB I).1 _).trans a1.o;have c2:=hid G;have c3:=hid I;clear G I;go_wp2_with fail
  go_loopw [5] (λi wr=>∃k d:Nat,k<=20/\i=.int .i64 k/\wr=z.drewN d/\∀j,j<k->a.2.getD j 0=b.2.getD j 0) (λi _=>20-(intOf i).toNat)
  case atStart=>exact⟨0,0,gD _,rfl,rfl,λj Z=>by omega⟩
  case round =>
   obtain⟨k,d,Y,rfl,rfl,b0⟩:=hrel;have a2:=hid b0;clear b0;by_cases b2:k<20
   ·have c7:z.cell? ⟨w.heap.size,1+k,none⟩=some (.int .i64 (a.2.getD k 0)):=((zB c2.o).1 _).trans (b6.o k b2);have c9:z.cell? ⟨w.heap.size+1,1+k,none⟩=some (.int .i64 (b.2.getD k 0)):=((zB c3.o).1 _).trans (b7.o k b2);have c0:=hid (b9.o k)
    have b5:Hid (a.2.getD k 0=b.2.getD k 0->∀j,j<k+1->a.2.getD j 0=b.2.getD j 0):=λe j Z=>by
     rcases Nat.lt_succ_iff_lt_or_eq.1 Z with h | h
     ·exact a2.o j h
     ·rw[h];exact e
    generalize a.2.getD k 0=a4 at *;generalize b.2.getD k 0=a5 at *;have d0:(0:Int)<=(k:Int):=by omega
    have d1:(k:Int)<20:=by omega
    cases a8:(a4 != a5)
    ·have b8:Hid (a4=a5):=by show _=_;simpa using a8
     go_wp2_with fail
     go_quiet (fail)
     go_wp2_with fail
     go_roundw
     case rel=>exact⟨k+1,_,by omega,by go_num,rfl,b5.o b8.o⟩
     case measure=>simp[intOf];omega
    ·have J:=hid (c0.o (by simpa using a8));go_wp2_with fail
     go_quiet (fail)
     go_wp2_with fail
     go_ret;exact⟨jM (by rw[J.o]),below_drewN (below_drewN W _) _⟩
   ·have J:Hid (decide (a=b)=true):=by
     show _=_;rw[decide_eq_true_iff];exact b4.o c1.o (λj Z=>a2.o j (by omega))
    go_wp2_with fail
    go_ret;exact⟨jM (by rw[J.o]),below_drewN W _⟩
 ·have J:Hid (decide (a=b)=false):=a3.o (by simp at U;omega);have a6:=a0.o;have a7:=a1.o
  go_in
  have G:((w.alloc (.cells A 66)).alloc (.cells B 66)).heap[w.heap.size]?=some (.cells A 66 (0,0)):=nN _ _ _;have I:((w.alloc (.cells A 66)).alloc (.cells B 66)).heap[w.heap.size+1]?=some (.cells B 66 (0,0)):=nA _ _ _;have W:Below w.heap.size w ((w.alloc (.cells A 66)).alloc (.cells B 66)):=((lK _ _).alloc (lF _) _).alloc (by simp) _;have s1:((w.alloc (.cells A 66)).alloc (.cells B 66)).heap.size=w.heap.size+1+1:=by simp
  go_upto_region 1 with fail
  generalize ((w.alloc (.cells A 66)).alloc (.cells B 66))=z at *;have c4:w.heap.size<z.heap.size:=by omega
  have c5:w.heap.size+1<z.heap.size:=by omega
  have c6:z.cell? ⟨w.heap.size,0,none⟩=some (.int .i64 (a.1:Int)):=((zB G).1 _).trans a6;have c8:z.cell? ⟨w.heap.size+1,0,none⟩=some (.int .i64 (b.1:Int)):=((zB I).1 _).trans a7;clear G I s1;go_wp2_with fail
  go_ret;exact⟨jM (by rw[J.o]),W⟩
theorem Bw mv ok(h:Nat) o(J:o.2.length=20) w:
  Calls prog 130 #[mv,.bool ok,.int .i64 (h),.agg (qG o)] w λe w'=>∃v,e=.returned v/\xX w' w.heap.size v (if ok then[(h,o.2)]else[])/\Below w.heap.size w w':=by
 have a0:Hid ((qG o).setIfInBounds 0 (.int .i64 (h:Int))=qG (h,o.2)):=rfl;have a2:=hid (dA o J);have Z:Hid ((qG o)[0]?=some (.int .i64 (o.1:Int))):=rfl;have I:=hid J;cases ok
 ·simp only[sH,wX];generalize qG o=A at *
  go_in
  go_wp2_with fail
  go_ret;exact⟨_,rfl,oC _ _ _ _,(lK _ _).alloc (lF _) _⟩
 ·simp only[wS];generalize a5:qG o=A at *
  go_in
  have G:(w.alloc (.cells A 66)).heap[w.heap.size]?=some (.cells A 66 (0,0)):=jP _ _;have U:Below w.heap.size w (w.alloc (.cells A 66)):=(lK _ _).alloc (lF _) _;have s1:(w.alloc (.cells A 66)).heap.size=w.heap.size+1:=by simp
  go_upto_region 1 with fail
  generalize (w.alloc (.cells A 66))=z at *;have a6:w.heap.size<z.heap.size:=by omega
  have a3:z.cell? ⟨w.heap.size,0,none⟩=some (.int .i64 (o.1:Int)):=((zB G).1 _).trans Z.o;have a4:z.frozen? ⟨w.heap.size,0,none⟩=false:=(zB G).2 _
  have a1:Hid ((z.setCell ⟨w.heap.size,0,none⟩ (.int .i64 (h:Int))).heap[w.heap.size]?=some (.cells (qG (h,o.2)) 66 (0,0))):=by
   have:=lX z w.heap.size 0 _ _ (.int .i64 (h:Int)) G;show _=_;rw[this,a0.o]
  have S2:(z.setCell ⟨w.heap.size,0,none⟩ (.int .i64 (h:Int))).heap.size=w.heap.size+1:=by simp[World.setCell,s1]
  have Y:Hid (Below w.heap.size w (z.setCell ⟨w.heap.size,0,none⟩ (.int .i64 (h:Int)))):=U.setCell (p:=⟨w.heap.size,0,none⟩) (lF _) _;clear G U;go_wp2_with (first|(refine bK (by rfl) (.tmp 7) (by rfl) w.heap.size (by rfl) (by exact a1.o) (by exact dA (h,o.2) I.o) ?_)|(refine bD (by rfl) (.tmp 13) (by rfl) (h,o.2) I.o (by rfl) ?_) | fail)
  go_ret;have W:=PU (w:=z.setCell ⟨w.heap.size,0,none⟩ (.int .i64 (h:Int))) (base:=w.heap.size) (by have:=S2;omega) (h,o.2) I.o;rw[S2]at W;exact⟨_,rfl,W,Y.o.alloc (by rw[S2];omega) _⟩
theorem WJ{L o n}(h:300000<n+L.length+1\/o∉L):yQ L o n=(L++[o],n+L.length+1):=by
 unfold yQ;rw[lC (λe=>h.elim (λx=>by omega) (λx=>x e.2))]
theorem zDc{L o n}(h:n+L.length+1<=300000)(G:o∈L):yQ L o n=(L,n+L.length+1):=by
 unfold yQ;rw[lG ⟨h,G⟩]
def dz(w:World)(mb:Nat)(tv:Value)(l:List zU)(t:BA)(base:Nat)(v:Value)(r:OW)(v':Value)(w':World):Prop:=
 xX w' base v' r.1/\jU w' mb tv l t r.2/\jF (λk=>k=mb\/v.ownBlock=some k) w w'/\(∀k,v'.ownBlock=some k->v.ownBlock=some k\/w.heap.size<=k)
theorem PV{w h wr w1}{mb}{tv}{l}{t}{base m}{v}{L}{o}{g cap}(U:∀k,v.ownBlock=some k->k≠mb/\tv.ownBlock≠some k)
  (I:jF (λk=>k=mb) w h) (Y:jU h mb tv l t m) (J:Below h.heap.size h wr) (Z:(wr.alloc (.cells (qG o) 66)).grownBy w1 v.ownBlock) (a0:w1.ownsRow base 66 21 (.slice (some ⟨g,0,none⟩) (L.length+1) cap) (L.length+1) (L.flatMap jw++jw o))
  (a1:v.ownBlock=some g\/g=wr.heap.size+1):dz w mb tv l t base v (L++[o],m) (.slice (some ⟨g,0,none⟩) (L.length+1) cap) w1:=by
 have s1:=I.size;have s3:=J.size;have W:jF (λk=>v.ownBlock=some k) h w1:=((jF.below J).alloc _).grown Z (λk e=>.inl e);refine⟨Sd a0,Y.keep W (λe=>(U mb e).1 rfl) (λk G e=>(U k e).2 G),I.mono (λ_ _ e=>.inl e) |>.trans W (λk _ e=>.inr e),λk G=>?_⟩;simp only[Value.ownBlock]at G;rcases a1 with e | e
 ·left;rw[e];simpa using G
 ·right;simp at G;omega
theorem Cn{w mb tv l t n base v L} o(c9:o.2.length=20)(c1:jU w mb tv l t n)(d0:xX w base v L)(i4:base<=w.heap.size)(e8:EI L)(hap:∀k,v.ownBlock=some k->k≠mb/\tv.ownBlock≠some k)(i3:L.length<=1000000)(i7:n+L.length+1<=2 ^ 60):
  Calls prog 54 #[.pointer (some ⟨mb,0,none⟩),v,.agg (qG o)] w λe w'=>∃v',e=.returned v'/\dz w mb tv l t base v (yQ L o n) v' w':=by
 obtain⟨Z,e7,f5,f6,f7⟩:=sK PN;obtain⟨ao,cap,rfl⟩:=dU d0;obtain⟨h0,h1,e0,e6⟩:=c1.cells;have e1:=e6 2;have f0:=c1.lt;have d5:=hid c1;have d7:=hid d0;have b3:=hid hap;have d4:=hid e8;have U:=hid c9;have c3:=hid (dA o c9);have I:Hid (prog.info? 66=some Z/\Z.zero=some (.agg (qG xI))/\Z.size=21/\Z.bytes=168):=⟨e7,f5,f6,f7⟩
 clear c1 d0 hap e8 c9 e6 h0 h1 e7 f5 f6 f7
 go_in
 go_upto_region 1 with fail
 have b8:Below w.heap.size w (w.alloc (.cells (qG o) 66)):=(lK _ _).alloc (lF _) _;have f9:(w.alloc (.cells (qG o) 66)).heap[w.heap.size]?=some (.cells (qG o) 66 (0,0)):=jP _ _;have s0:(w.alloc (.cells (qG o) 66)).heap.size=w.heap.size+1:=by simp
 generalize (w.alloc (.cells (qG o) 66))=a8 at *;have h2:=(b8.cell (p:=⟨mb,2,none⟩) f0).trans e0;have h5:=(b8.frozen (p:=⟨mb,2,none⟩) f0).trans e1;have B0:=hid b8;have d8:=hid f9;clear b8 f9 e0 e1;go_upto_region 2 with fail
 have b9:((n:Int)+(L.length:Int)+1)=((n+L.length+1:Nat):Int):=by omega
 rw[b9];have d1:jF (λk=>k=mb) w (a8.setCell ⟨mb,2,none⟩ (.int .i64 ((n+L.length+1:Nat):Int))):=jF.set (B:=λk=>k=mb) (jF.below B0.o) (p:=⟨mb,2,none⟩) (.inl rfl) _;have d2:jU (a8.setCell ⟨mb,2,none⟩ (.int .i64 ((n+L.length+1:Nat):Int))) mb tv l t (n+L.length+1):=(d5.o.below B0.o).set _
 have g0:(a8.setCell ⟨mb,2,none⟩ (.int .i64 ((n+L.length+1:Nat):Int))).heap[w.heap.size]?=some (.cells (qG o) 66 (0,0)):=by
  rw[lS _ _ _ _ (by show w.heap.size≠mb;omega)];exact d8.o
 have s1:(a8.setCell ⟨mb,2,none⟩ (.int .i64 ((n+L.length+1:Nat):Int))).heap.size=w.heap.size+1:=by simp[World.setCell,s0]
 have f8:=qX d7.o d1 (λk c0 e=>(b3.o k c0).1 e);generalize (a8.setCell ⟨mb,2,none⟩ (.int .i64 ((n+L.length+1:Nat):Int)))=G at *;have b5:=hid d1;have b6:=hid d2;have b7:=hid g0;have a6:=hid f8;have a0:=Gw d2;clear d1 d2 g0 f8 d5 d7 b9 h2 h5 B0 d8 s0;generalize e4:n+L.length+1=N at *;have a5:=hid e4;clear e4;cases a3:decide ((N:Int)>300000)
 ·rw[a3]at a0;have c2:Hid (N<=300000):=by simp at a3;show _<=_;omega
  have c4:=hid a0;clear a0 a3;go_wp2_with fail
  refine c4.o.mono ?_;rintro e w2 ⟨rfl,rfl⟩;go_wp2_with fail
  go_loopw [8] (λi wr=>∃k:Nat,k<=L.length/\i=.int .i64 k/\Below G.heap.size G wr/\o∉L.take k) (λi _=>L.length-(intOf i).toNat)
  case atStart=>exact⟨0,gD _,rfl,lK _ _,by simp⟩
  case round =>
   obtain⟨k,c0,rfl,c8,f1⟩:=hrel;have h9:=c8.size;have d6:=hid f1;have a4:=hid c8;clear f1 c8;by_cases a2:k<L.length
   ·obtain⟨g,a1,e,i5,i6,h6,f3⟩:=DK a6.o d4.o a2;obtain⟨rfl,_,rfl⟩:ao=some ⟨g,0,none⟩/\True/\cap=a1:=by injection e with b9 i2 h3;exact⟨b9,trivial,h3⟩
    have f4:(L.getD k xI).2.length=20:=d4.o _ (dB a2);have g6:Hid (L.getD k xI=o->o∈L):=λe=>by rw[<-e];exact dB a2
    have g5:Hid (L.getD k xI≠o->o∉L.take (k+1)):=λe=>by
     have h4:L.take (k+1)=L.take k++[L.getD k xI]:=by
      rw[List.take_add_one,lN a2,lH,lN a2];rfl
     rw[h4,gV];intro h;rcases h with h | h
     ·exact d6.o h
     ·simp at h;exact e h.symm
    have c5:=λz=>Sg (L.getD k xI) o f4 U.o z
    generalize L.getD k xI=x at *;have b0:∀z:World,(∀q,q<G.heap.size->z.heap[q]?=G.heap[q]?)->z.rangeAt g (k*21) (jw x):=λz hz j u i0=>(gH (a:=⟨g,k*21+j,none⟩) (hz g h6)).trans (f3 j u i0)
    have b1:∀z:World,(∀q,q<G.heap.size->z.heap[q]?=G.heap[q]?)->z.rangeAt w.heap.size 0 (jw o):=λz hz=>yE (A:=qG o) ((hz w.heap.size (by omega)).trans b7.o)
    have i8:(0:Int)<=(k:Int):=by omega
    have i9:(k:Int)<(L.length:Int):=by omega
    have i1:=xK x f4;have h7:=xK o U.o;obtain⟨d9,c7⟩:∃b:Bool,b=decide (x=o):=⟨_,rfl⟩
    rw[<-c7]at c5;have g7:=hid c5;have d3:=hid c7;clear c5 c7 e;go_wp2_with fail
    refine wp_region_held_drew (S:=λz:World=>∀q,q<G.heap.size->z.heap[q]?=G.heap[q]?) (by kernel_rfl) (λq J=>a4.o.block q J) (λa9=>?_);refine qJ 0 33 (.slice (some ⟨g,0,none⟩) L.length cap) rfl (by kernel_rfl) (λ_ _ _ h=>h) (λz hz=>by clear hz a9 b0 b1;go_simp) (by assumption) ?_;refine qJ 1 34 (.int .i64 k) rfl (by kernel_rfl) (λ_ _ _ h=>h) (λz hz=>by clear hz a9 b0 b1;go_simp) (by assumption) ?_;refine qJ 2 35 (.pointer (some ⟨g,k*21,none⟩)) rfl (by kernel_rfl) (λ_ _ _ h=>h) (λz hz=>by clear hz a9 b0 b1;go_simp) (by assumption) ?_;refine MN 3 36 (.agg (qG x)) rfl (by kernel_rfl) (λ_ _ _ h=>h) (yieldsIf_load_mid (by rfl) _ _ rfl _ _ rfl _ _ b0 underlying66 rfl (by rw[xL];exact rJ some i1.symm)) (by assumption) ?_;refine MN 4 37 (.agg (qG o)) rfl (by kernel_rfl) (λ_ _ _ h=>h) (yieldsIf_load_mid (by rfl) _ _ rfl _ _ rfl _ _ b1 underlying66 rfl (by rw[xL];exact rJ some h7.symm)) (by assumption) ?_;simp only[Act.put,lD,lJ,lI];refine wpAnyH_ready (rs:=[5]) (by kernel_rfl) (by simp) ?_;refine AllReadyH.cons rfl (λK e3=>?_) AllReadyH.nil;clear b0 b1 f3;have g2:=hid a9;clear a9
    go_simp
    refine(g7.o wr.drew).mono ?_;rintro e g1 ⟨rfl,c6⟩;have e5:∀q,q<G.heap.size->g1.heap[q]?=G.heap[q]?:=λq J=>(c6.block q (by show q<wr.heap.size;omega)).trans (g2.o q J)
    have b2:Hid (Below G.heap.size G g1):=a4.o.trans (((lK _ _).drew).trans (c6.mono h9));clear c6
    go_simp
    refine e3.out _ _ e5 (λe2=>?_);clear e3 K e5;refine qJ 6 9 (.bool d9) rfl (by kernel_rfl) (λ_ _ _ h=>h) (λz hz=>by clear hz e2;go_simp) (by assumption) ?_;simp only[Act.put,lD,lJ,lI];refine rP (by kernel_rfl) ?_ _;clear e2;cases d9
    ·have g4:Hid (o∉L.take (k+1)):=g5.o (by have:=d3.o;simpa using this.symm);go_wp2_with fail
     go_roundw
     case rel=>exact⟨k+1,by omega,by go_num,b2.o,g4.o⟩
     case measure=>simp[intOf];omega
    ·have g3:Hid (o∈L):=g6.o (by have:=d3.o;simpa using this.symm);go_wp2_with fail
     go_ret;have h8:yQ L o n=(L,N):=by rw[zDc (by have:=a5.o;have:=c2.o;omega) g3.o,a5.o]
     rw[h8];refine⟨_,rfl,vW a6.o b2.o,b6.o.below b2.o,(b5.o.mono (λ_ _ e=>.inl e)).Jy b2.o,λk c0=>.inl c0⟩
   ·have b4:Hid (yQ L o n=(L++[o],N)):=by
     show _=_;rw[WJ (.inr (by have:=d6.o;rwa [show k=L.length by omega,rT]at this)),a5.o]
    have f2:wr.heap[w.heap.size]?=some (.cells (qG o) 66 (0,0)):=(a4.o.block _ (by omega)).trans b7.o;have g9:=hid f2;have g8:=hid (vW a6.o a4.o);clear f2;go_wp2_with (first|(refine bK (by rfl) (.tmp 5) (by rfl) w.heap.size (by rfl) (by exact g9.o) (by exact c3.o) ?_)|(refine bD (by rfl) (.tmp 42) (by rfl) o U.o (by rfl) ?_)|(at_builtin;refine wpList_append_lies _ rfl (.tmp 41) (.tmp 43) 62 rfl base 66 Z _ 21 168 underlying62 I.o.1 I.o.2.1 I.o.2.2.1 I.o.2.2.2 (dA xI rfl) (by decide) (.slice ao L.length cap) L.length (L.flatMap jw) (by rfl) (oM g8.o _) ⟨wr.heap.size,0,none⟩ 1 1 (jw o) (by rfl) (by rw[xK o U.o]) (fJ _ (jw o) _) (Gv o) (by decide) (by unfold maxLen;omega) (by omega) (by simp;omega) (wr.heap.size+1) (by simp) ?_) | fail)
    intro g a1 w1 Y W J e9;have a7:=hid (PV b3.o b5.o b6.o a4.o W Y J);clear Y W J;go_wp2_with fail
    go_ret;rw[b4.o];exact⟨_,rfl,a7.o⟩
 ·rw[a3]at a0;have c2:Hid (300000<N):=by simp at a3;show _<_;omega
  have c4:=hid a0;clear a0 a3;go_wp2_with fail
  refine c4.o.mono ?_;rintro e w2 ⟨rfl,rfl⟩;go_wp2_with fail
  refine wM 1 ?_;rw[iM]
  have b4:Hid (yQ L o n=(L++[o],N)):=by
   show _=_;rw[WJ (.inl (by have:=a5.o;have:=c2.o;omega)),a5.o]
  by_cases a2:0<L.length
  ·have hz:(0:Int)<(L.length:Int):=by omega
   go_wp2_with (first|(refine bK (by rfl) (.tmp 5) (by rfl) w.heap.size (by rfl) (by exact b7.o) (by exact c3.o) ?_)|(refine bD (by rfl) (.tmp 42) (by rfl) o U.o (by rfl) ?_)|(at_builtin;refine wpList_append_lies _ rfl (.tmp 41) (.tmp 43) 62 rfl base 66 Z _ 21 168 underlying62 I.o.1 I.o.2.1 I.o.2.2.1 I.o.2.2.2 (dA xI rfl) (by decide) (.slice ao L.length cap) L.length (L.flatMap jw) (by rfl) (oM a6.o _) ⟨G.heap.size,0,none⟩ 1 1 (jw o) (by rfl) (by rw[xK o U.o]) (fJ _ (jw o) _) (Gv o) (by decide) (by unfold maxLen;omega) (by omega) (by simp;omega) (G.heap.size+1) (by simp) ?_) | fail)
   intro g a1 w1 Y W J e9;have a7:Hid (dz w mb tv l t base (.slice ao L.length cap) (L++[o],N) (.slice (some ⟨g,0,none⟩) (L.length+1) a1) w1):=PV b3.o b5.o b6.o (lK _ _) W Y (by rw[s1];exact J);clear Y W J;go_wp2_with fail
   go_ret;rw[b4.o];exact⟨_,rfl,a7.o⟩
  ·have hz:¬(0:Int)<(L.length:Int):=by omega
   go_wp2_with (first|(refine bK (by rfl) (.tmp 5) (by rfl) w.heap.size (by rfl) (by exact b7.o) (by exact c3.o) ?_)|(refine bD (by rfl) (.tmp 42) (by rfl) o U.o (by rfl) ?_)|(at_builtin;refine wpList_append_lies _ rfl (.tmp 41) (.tmp 43) 62 rfl base 66 Z _ 21 168 underlying62 I.o.1 I.o.2.1 I.o.2.2.1 I.o.2.2.2 (dA xI rfl) (by decide) (.slice ao L.length cap) L.length (L.flatMap jw) (by rfl) (oM a6.o _) ⟨G.heap.size,0,none⟩ 1 1 (jw o) (by rfl) (by rw[xK o U.o]) (fJ _ (jw o) _) (Gv o) (by decide) (by unfold maxLen;omega) (by omega) (by simp;omega) (G.heap.size+1) (by simp) ?_) | fail)
   intro g a1 w1 Y W J e9;have a7:Hid (dz w mb tv l t base (.slice ao L.length cap) (L++[o],N) (.slice (some ⟨g,0,none⟩) (L.length+1) a1) w1):=PV b3.o b5.o b6.o (lK _ _) W Y (by rw[s1];exact J);clear Y W J;go_wp2_with fail
   go_ret;rw[b4.o];exact⟨_,rfl,a7.o⟩
theorem vO{w:World}{base e s v n xs}(G:w.ownsRow base e s v n xs){k}(h:v.ownBlock=some k):base<=k/\k<w.heap.size:=by
 rcases G.2 with ⟨rfl,W⟩ | ⟨g,cap,U,rfl,I,J,_⟩
 ·simp[Value.ownBlock]at h
 ·simp only[Value.ownBlock,oP]at h;subst h;exact⟨I,(lM.1 J).1⟩
theorem sj{w base v L}(h:xX w base v L){k}(G:v.ownBlock=some k):base<=k/\k<w.heap.size:=vO h G
def dF:Value:=.slice none 0 0
theorem Cr:dF.ownBlock=none:=rfl
theorem Aq w base:xX w base dF []:=oC _ _ _ _
def fT(w:World)(mb:Nat)(tv:Value)(l:List zU)(t:BA)(r:OW)(v':Value)(w':World):Prop:=
 xX w' w.heap.size v' r.1/\jU w' mb tv l t r.2/\jF (λk=>k=mb) w w'
structure Two (w0:World) (mb:Nat) (tv:Value) (l:List zU) (t:BA) (X:List Oc) (n:Nat) (u:Value) (Ls:List (Value × List Oc)) (wx:World):Prop where
 me:jU wx mb tv l t n
 kp:jF (λk=>k=mb) w0 wx
 own:xX wx w0.heap.size u X
 Uk:∀q∈Ls,xX wx w0.heap.size q.1 q.2/\(∀k,u.ownBlock=some k->q.1.ownBlock≠some k)
 m0:mb<w0.heap.size
 t0:∀k,tv.ownBlock=some k->k<w0.heap.size
section
variable {w0 wx w':World} {mb:Nat} {tv:Value} {l:List zU} {t:BA} {X:List Oc} {n:Nat} {u v':Value} {Ls:List (Value × List Oc)} {r:OW}
theorem jU.t0(h:jU wx mb tv l t n):∀k,tv.ownBlock=some k->k<wx.heap.size:=λk G=>(vO h.tk G).2
theorem Two.add(h:Two w0 mb tv l t X n u Ls wx)(p:dz wx mb tv l t w0.heap.size u r v' w'):Two w0 mb tv l t r.1 r.2 v' Ls w':=by
 obtain⟨W,Y,J,Z⟩:=p;have a1:=h.kp.size;refine⟨Y,h.kp.trans J (λi a0 e=>?_),W,λq U=>?_,h.m0,h.t0⟩
 ·rcases e with e | e
  ·exact e
  ·exact absurd (sj h.own e).1 (by omega)
 ·have a:=h.Uk q U;refine⟨qX a.1 J (λk G e=>?_),λk G I=>?_⟩
  ·rcases e with e | e
   ·have:=(sj a.1 G).1;have:=h.m0;omega
   ·exact a.2 k e G
  ·rcases Z k G with e | e
   ·exact a.2 k e I
   ·have:=(sj a.1 I).2;omega
theorem Two.hap(h:Two w0 mb tv l t X n u Ls wx):∀k,u.ownBlock=some k->k≠mb/\tv.ownBlock≠some k:=λk G=>by
 have b:=(sj h.own G).1;have m:=h.m0;exact⟨by omega,λe=>by have:=h.t0 k e;omega⟩
theorem Two.call(h:Two w0 mb tv l t X n u Ls wx)(p:fT wx mb tv l t r v' w'):Two w0 mb tv l t X r.2 u ((v',r.1)::Ls) w':=by
 obtain⟨U,Y,J⟩:=p;have W:=h.kp.size;have m:=h.m0;refine⟨Y,h.kp.trans J (λi Z e=>e),qX h.own J (λk G e=>by have:=(sj h.own G).1;omega),λq I=>?_,h.m0,h.t0⟩;rw[oH]at I;rcases I with rfl | I
 ·refine⟨qP U W,λk G e=>?_⟩;have:=(sj h.own G).2;have:=(sj U e).1;omega
 ·have a:=h.Uk q I;exact⟨qX a.1 J (λk G e=>by have:=(sj a.1 G).1;omega),a.2⟩
theorem Two.below(h:Two w0 mb tv l t X n u Ls wx)(b:Below wx.heap.size wx w'):Two w0 mb tv l t X n u Ls w':=
 ⟨h.me.below b,h.kp.Jy b,vW h.own b,λq G=>⟨vW (h.Uk q G).1 b,(h.Uk q G).2⟩,h.m0,h.t0⟩
theorem Two.turn(h:Two w0 mb tv l t X n u Ls wx):Two w0 mb tv l t [] n dF [(u,X)] wx:=
 ⟨h.me,h.kp,Aq _ _,λq I=>by
  simp only[oH,sS,wY]at I;subst I;exact⟨h.own,λk G=>by rw[Cr]at G;cases G⟩,h.m0,h.t0⟩
theorem Two.pick{q}(h:Two w0 mb tv l t X n u Ls wx)(G:q∈Ls):Two w0 mb tv l t q.2 n q.1 [] wx:=
 ⟨h.me,h.kp,(h.Uk q G).1,λq G=>by simp at G,h.m0,h.t0⟩
theorem Two.sub{G}(h:Two w0 mb tv l t X n u Ls wx)(J:∀q∈G,q∈Ls):Two w0 mb tv l t X n u G wx:=
 ⟨h.me,h.kp,h.own,λq I=>h.Uk q (J q I),h.m0,h.t0⟩
theorem Two.first(h:jU w0 mb tv l t n)(p:fT w0 mb tv l t r v' w'):Two w0 mb tv l t r.1 r.2 v' [] w':=
 ⟨p.2.1,p.2.2,p.1,λq G=>by simp at G,h.lt,h.t0⟩
theorem Two.start(h:jU w0 mb tv l t n)(G:jF (λk=>k=mb) w0 wx)(I:jU wx mb tv l t n)(U:xX wx w0.heap.size u X):Two w0 mb tv l t X n u [] wx:=
 ⟨I,G,U,λq J=>by simp at J,h.lt,h.t0⟩
theorem Two.post(h:Two w0 mb tv l t X n u Ls wx):fT w0 mb tv l t (X,n) u wx:=⟨h.own,h.me,h.kp⟩
theorem Two.at{q}(h:Two w0 mb tv l t X n u Ls wx)(J:q∈Ls)(I:EI q.2){k}(G:k<q.2.length):
  ∃g cap,q.1=.slice (some ⟨g,0,none⟩) q.2.length cap/\q.2.length<=cap/\w0.heap.size<=g/\g<wx.heap.size/\wx.rangeAt g (k*21) (jw (q.2.getD k xI)):=DK (h.Uk q J).1 I G
end
theorem LQ{w v l}(h:nH w v l):∃ao cap,v=.slice ao l.length cap:=by
 rcases h.2 with ⟨rfl,G⟩ | ⟨g,cap,I,rfl,_⟩
 ·exact⟨none,0,by rw[G]⟩
 ·exact⟨_,_,rfl⟩
theorem EI.of{t}{L}(h:qM (kV t) L):EI L:=λx G=>(h x G).len
def T0(l:List zU)(t:BA)(f:Nat):Prop:=∀(a b:Nat) (ai bi:Int) (o:Oc) (n mb:Nat) (tv:Value) (w:World),ai=a->bi=b->jU w mb tv l t n->kV t o->a<=66->b<=l.length->4*(70-a)+3<=f->f<=300->(mM l t f 0 a b o n).2<=2 ^ 60->
 CT 24 #[.pointer (some ⟨mb,0,none⟩),.int .i64 ai,.int .i64 bi,.agg (qG o)] w λe w'=>∃v',e=.returned v'/\fT w mb tv l t (mM l t f 0 a b o n) v' w'
def T1(l:List zU)(t:BA)(f:Nat):Prop:=∀(a b:Nat) (ai bi:Int) (o:Oc) (n mb:Nat) (tv:Value) (w:World),ai=a->bi=b->jU w mb tv l t n->kV t o->a<=66->b<=l.length->4*(70-a)+2<=f->f<=300->(mM l t f 1 a b o n).2<=2 ^ 60->
 CT 53 #[.pointer (some ⟨mb,0,none⟩),.int .i64 ai,.int .i64 bi,.agg (qG o)] w λe w'=>∃v',e=.returned v'/\fT w mb tv l t (mM l t f 1 a b o n) v' w'
def T2(l:List zU)(t:BA)(f:Nat):Prop:=∀(a b:Nat) (ai bi:Int) (o:Oc) (n mb:Nat) (tv:Value) (w:World),ai=a->bi=b->jU w mb tv l t n->kV t o->a<l.length->a<b->b<=l.length+1->4*(70-a)<=f->f<=300->(mM l t f 2 a b o n).2<=2 ^ 60->
 CT 113 #[.pointer (some ⟨mb,0,none⟩),.int .i64 ai,.int .i64 bi,.agg (qG o)] w λe w'=>∃v',e=.returned v'/\fT w mb tv l t (mM l t f 2 a b o n) v' w'
def TP(l:List zU)(t:BA)(f:Nat):Prop:=∀(a b:Nat) (ai bi:Int) (o:Oc) (n mb:Nat) (tv:Value) (w:World),ai=a->bi=b->jU w mb tv l t n->kV t o->a<l.length->a<b->b<=l.length+1->4*(70-a)<=f->f<=300->(mM l t f 2 a b o n).2<=2 ^ 60->
 CT 87 #[.pointer (some ⟨mb,0,none⟩),.int .i64 ai,.int .i64 bi,.int .i64 bi,.agg (qG o)] w λe w'=>∃v',e=.returned v'/\fT w mb tv l t (mM l t f 2 a b o n) v' w'
def T3(l:List zU)(t:BA)(f:Nat):Prop:=∀(a b:Nat) (ai bi ci:Int) (o:Oc) (n mb:Nat) (tv:Value) (w:World),ai=a->bi=b->ci=b+1->jU w mb tv l t n->kV t o->a<l.length->a<b->b<l.length->jX l b=8->4*(70-a)+1<=f->f<=300->(mM l t f 3 a b o n).2<=2 ^ 60->
 CT 87 #[.pointer (some ⟨mb,0,none⟩),.int .i64 ai,.int .i64 bi,.int .i64 ci,.agg (qG o)] w λe w'=>∃v',e=.returned v'/\fT w mb tv l t (mM l t f 3 a b o n) v' w'
def Ct(w:World)(base:Nat)(v:Value)(b:List Int):Prop:=w.ownsRow base 3 1 v b.length (b.map (Value.int .i64))
theorem Yk:(prog.info? 3).map (λi=>(i.zero,i.size,i.bytes))=some (some (.int .i64 0),1,8):=by kernel_rfl
def tJ(i j:Int)(late:Bool)(sv lv ov:Value):Array Value:=#[.int .i64 i,.int .i64 j,.bool late,sv,lv,ov]
structure yL (base mb ub:Nat) (tv:Value) (l:List zU) (t:BA) (i j:Int) (late:Bool) (sv lv ov:Value) (A:List Oc) (B:List Int) (O:List Oc) (n:Nat) (wx:World):Prop where
 me:jU wx mb tv l t n
 cell:wx.heap[ub]?=some (.cells (tJ i j late sv lv ov) 167 (0,0))
 sn:xX wx base sv A
 lf:Ct wx base lv B
 ot:xX wx base ov O
 m0:mb<base
 u0:base<=ub
 t0:∀k,tv.ownBlock=some k->k<base
 ds:∀k,sv.ownBlock=some k->k≠ub/\lv.ownBlock≠some k/\ov.ownBlock≠some k
 dl:∀k,lv.ownBlock=some k->k≠ub/\ov.ownBlock≠some k
 do':∀k,ov.ownBlock=some k->k≠ub
def MX(ub:Nat)(sv lv ov:Value)(k:Nat):Prop:=k=ub\/sv.ownBlock=some k\/lv.ownBlock=some k\/ov.ownBlock=some k
structure vD (mb ub:Nat) (sv lv ov ZE ZF ov':Value) (wx w':World):Prop where
 kp:jF (λk=>k=mb\/MX ub sv lv ov k) wx w'
 nw:∀k,MX ub ZE ZF ov' k->MX ub sv lv ov k\/wx.heap.size<=k
section
variable {base mb ub:Nat} {tv:Value} {l:List zU} {t:BA} {i j:Int} {late:Bool} {sv lv ov ZE ZF ov' sv2 lv2 ov2:Value} {A:List Oc} {B:List Int} {O:List Oc} {n:Nat} {wx w' w2:World}
theorem vD.refl mb ub sv lv ov w:vD mb ub sv lv ov sv lv ov w w:=⟨jF.refl _ _,λk h=>.inl h⟩
theorem vD.trans(h:vD mb ub sv lv ov ZE ZF ov' wx w')(g:vD mb ub ZE ZF ov' sv2 lv2 ov2 w' w2):vD mb ub sv lv ov sv2 lv2 ov2 wx w2:=by
 have I:=h.kp.size;refine⟨h.kp.trans g.kp (λk G e=>?_),λk G=>?_⟩
 ·rcases e with e | e
  ·exact .inl e
  ·rcases h.nw k e with e | e
   ·exact .inr e
   ·omega
 ·rcases g.nw k G with e | e
  ·exact h.nw k e
  ·exact .inr (by omega)
theorem vD.below(h:vD mb ub sv lv ov ZE ZF ov' wx w')(b:Below w'.heap.size w' w2):vD mb ub sv lv ov ZE ZF ov' wx w2:=⟨h.kp.Jy b,h.nw⟩
theorem vD.of_below(b:Below wx.heap.size wx w'):vD mb ub sv lv ov sv lv ov wx w':=(vD.refl _ _ _ _ _ _).below b
theorem vD.zE8(h:jF (λk=>k=mb) wx w'):vD mb ub sv lv ov sv lv ov wx w':=⟨h.mono (λ_ _ e=>.inl e),λk h=>.inl h⟩
theorem yL.Iy(h:yL base mb ub tv l t i j late sv lv ov A B O n wx):ub<wx.heap.size:=(lM.1 h.cell).1
theorem yL.ge(G:yL base mb ub tv l t i j late sv lv ov A B O n wx){k}(h:MX ub sv lv ov k):base<=k/\k<wx.heap.size:=by
 rcases h with rfl | h | h | h
 ·exact⟨G.u0,G.Iy⟩
 ·exact vO G.sn h
 ·exact vO G.lf h
 ·exact vO G.ot h
theorem yL.bs(h:yL base mb ub tv l t i j late sv lv ov A B O n wx):base<=wx.heap.size:=by have:=h.u0;have:=h.Iy;omega
theorem yL.keep{Q}(h:yL base mb ub tv l t i j late sv lv ov A B O n wx)(I:jF Q wx w')(G:∀k,base<=k->k<wx.heap.size->¬Q k){m}(J:jU w' mb tv l t m):yL base mb ub tv l t i j late sv lv ov A B O m w':=
 ⟨J,by rw[I.block ub h.Iy (G _ h.u0 h.Iy)];exact h.cell,qX h.sn I (λk e=>G k (vO h.sn e).1 (vO h.sn e).2),qX h.lf I (λk e=>G k (vO h.lf e).1 (vO h.lf e).2),qX h.ot I (λk e=>G k (vO h.ot e).1 (vO h.ot e).2),h.m0,h.u0,h.t0,h.ds,h.dl,h.do'⟩
theorem yL.below(h:yL base mb ub tv l t i j late sv lv ov A B O n wx)(b:Below wx.heap.size wx w'):yL base mb ub tv l t i j late sv lv ov A B O n w':=by
 have:=h.keep (Q:=λ_=>False) (jF.below b) (λ_ _ _ e=>e) (h.me.below b);exact this
theorem yL.zE9(h:yL base mb ub tv l t i j late sv lv ov A B O n wx){r v'}(p:fT wx mb tv l t r v' w'):yL base mb ub tv l t i j late sv lv ov A B O r.2 w':=
 h.keep p.2.2 (λk G _ e=>by have:=h.m0;omega) p.2.1
theorem yL.cells(h:yL base mb ub tv l t i j late sv lv ov A B O n wx):wx.cell? ⟨ub,0,none⟩=some (.int .i64 i)/\wx.cell? ⟨ub,1,none⟩=some (.int .i64 j)/\wx.cell? ⟨ub,2,none⟩=some (.bool late)/\wx.cell? ⟨ub,3,none⟩=some sv/\wx.cell? ⟨ub,4,none⟩=some lv/\wx.cell? ⟨ub,5,none⟩=some ov/\(∀o,wx.frozen? ⟨ub,o,none⟩=false):=
 ⟨(zB h.cell).1 0,(zB h.cell).1 1,(zB h.cell).1 2,(zB h.cell).1 3,(zB h.cell).1 4,(zB h.cell).1 5,(zB h.cell).2⟩
theorem yL.hap(h:yL base mb ub tv l t i j late sv lv ov A B O n wx){v:Value}{k}(G:base<=k):k≠mb/\tv.ownBlock≠some k:=by
 have:=h.m0;exact⟨by omega,λe=>by have:=h.t0 k e;omega⟩
theorem yL.add{r v'}(G:yL base mb ub tv l t i j late sv lv ov A B O n wx)(p:dz wx mb tv l t base ov r v' w'):
  yL base mb ub tv l t i j late sv lv v' A B r.1 r.2 (w'.setCell ⟨ub,5,none⟩ v')/\vD mb ub sv lv ov sv lv v' wx (w'.setCell ⟨ub,5,none⟩ v'):=by
 obtain⟨a3,a4,U,W⟩:=p;have a5:=U.size;have a0:=G.Iy
 have Y:∀k,v'.ownBlock=some k->k≠ub:=λk h e=>by
  rcases W k h with I | I
  ·exact G.do' k I e
  ·omega
 have Z:w'.heap[ub]?=some (.cells (tJ i j late sv lv ov) 167 (0,0)):=by
  rw[U.block ub a0 (λe=>by
   rcases e with e | e
   ·have:=G.m0;have:=G.u0;omega
   ·exact G.do' _ e rfl)];exact G.cell
 have J:jF (λk=>k=ub) w' (w'.setCell ⟨ub,5,none⟩ v'):=jF.set (B:=λk=>k=ub) (jF.refl _ w') (p:=⟨ub,5,none⟩) (.inl rfl) _
 have a1:∀k,sv.ownBlock=some k->¬(k=mb\/ov.ownBlock=some k):=λk h e=>by
  rcases e with e | e
  ·have:=(vO G.sn h).1;have:=G.m0;omega
  ·exact(G.ds k h).2.2 e
 have a2:∀k,lv.ownBlock=some k->¬(k=mb\/ov.ownBlock=some k):=λk h e=>by
  rcases e with e | e
  ·have:=(vO G.lf h).1;have:=G.m0;omega
  ·exact(G.dl k h).2 e
 refine⟨⟨a4.keep J (λe=>by have:=G.m0;have:=G.u0;omega) (λk h e=>by have:=G.t0 k h;have:=G.u0;omega),?_,qX (qX G.sn U a1) J (λk h e=>(G.ds k h).1 e),qX (qX G.lf U a2) J (λk h e=>(G.dl k h).1 e),qX a3 J (λk h e=>Y k h e),G.m0,G.u0,G.t0,λk h=>⟨(G.ds k h).1,(G.ds k h).2.1,λe=>?_⟩,λk h=>⟨(G.dl k h).1,λe=>?_⟩,Y⟩,⟨?_,λk h=>?_⟩⟩
 ·have:=lX w' ub 5 _ _ v' Z;rw[this];rfl
 ·rcases W k e with I | I
  ·exact(G.ds k h).2.2 I
  ·have:=(vO G.sn h).2;omega
 ·rcases W k e with I | I
  ·exact(G.dl k h).2 I
  ·have:=(vO G.lf h).2;omega
 ·refine(U.mono (C:=λk=>k=mb\/MX ub sv lv ov k) (λk _ e=>?_)).trans J (λk _ e=>.inr (.inl e));rcases e with e | e
  ·exact .inl e
  ·exact .inr (.inr (.inr (.inr e)))
 ·rcases h with h | h | h | h
  ·exact .inl (.inl h)
  ·exact .inl (.inr (.inl h))
  ·exact .inl (.inr (.inr (.inl h)))
  ·rcases W k h with I | I
   ·exact .inl (.inr (.inr (.inr I)))
   ·exact .inr I
theorem yL.work(h:yL base mb ub tv l t i j late sv lv ov A B O n wx) m:yL base mb ub tv l t i j late sv lv ov A B O m (wx.setCell ⟨mb,2,none⟩ (.int .i64 (m)))/\vD mb ub sv lv ov sv lv ov wx (wx.setCell ⟨mb,2,none⟩ (.int .i64 (m))):=by
 have G:jF (λk=>k=mb) wx (wx.setCell ⟨mb,2,none⟩ (.int .i64 (m:Int))):=jF.set (B:=λk=>k=mb) (jF.refl _ wx) (p:=⟨mb,2,none⟩) (.inl rfl) _;exact⟨h.keep G (λk I _ e=>by have:=h.m0;omega) (h.me.set m),vD.zE8 G⟩
theorem yL.seen{V}{A'}(G:yL base mb ub tv l t i j late sv lv ov A B O n wx)(I:jF (λk=>sv.ownBlock=some k) wx w')(a2:xX w' base V A')(Y:∀k,V.ownBlock=some k->sv.ownBlock=some k\/wx.heap.size<=k):
  yL base mb ub tv l t i j late V lv ov A' B O n (w'.setCell ⟨ub,3,none⟩ V)/\vD mb ub sv lv ov V lv ov wx (w'.setCell ⟨ub,3,none⟩ V):=by
 have a3:=G.Iy;have a6:=I.size
 have a1:w'.heap[ub]?=some (.cells (tJ i j late sv lv ov) 167 (0,0)):=by
  rw[I.block ub a3 (λe=>(G.ds _ e).1 rfl)];exact G.cell
 have Z:∀g,V.ownBlock=some g->g≠ub:=λg U=>by
  rcases Y g U with e | e
  ·exact(G.ds g e).1
  ·omega
 have a0:∀g,V.ownBlock=some g->lv.ownBlock≠some g:=λg U e=>by
  rcases Y g U with J | J
  ·exact(G.ds g J).2.1 e
  ·have:=(vO G.lf e).2;omega
 have go:∀g,V.ownBlock=some g->ov.ownBlock≠some g:=λg U e=>by
  rcases Y g U with J | J
  ·exact(G.ds g J).2.2 e
  ·have:=(vO G.ot e).2;omega
 have W:jF (λk=>k=ub) w' (w'.setCell ⟨ub,3,none⟩ V):=jF.set (B:=λk=>k=ub) (jF.refl _ w') (p:=⟨ub,3,none⟩) (.inl rfl) _;have a4:=G.m0;have u0:=G.u0;have a5:jU w' mb tv l t n:=G.me.keep I (λe=>by have:=(vO G.sn e).1;omega) (λk h e=>by have:=(vO G.sn e).1;have:=G.t0 k h;omega);refine⟨⟨a5.keep W (λe=>by omega) (λk h e=>by have:=G.t0 k h;omega),?_,qX a2 W (λk h e=>Z k h e),qX (qX G.lf I (λk h e=>(G.ds k e).2.1 h)) W (λk h e=>(G.dl k h).1 e),qX (qX G.ot I (λk h e=>(G.ds k e).2.2 h)) W (λk h e=>G.do' k h e),a4,u0,G.t0,λk h=>⟨Z k h,a0 k h,go k h⟩,G.dl,G.do'⟩,⟨?_,λk h=>?_⟩⟩
 ·have:=lX w' ub 3 _ _ V a1;rw[this];rfl
 ·exact(I.mono (C:=λk=>k=mb\/MX ub sv lv ov k) (λk _ e=>.inr (.inr (.inl e)))).trans W (λk _ e=>.inr (.inl e))
 ·rcases h with h | h | h | h
  ·exact .inl (.inl h)
  ·rcases Y k h with e | e
   ·exact .inl (.inr (.inl e))
   ·exact .inr e
  ·exact .inl (.inr (.inr (.inl h)))
  ·exact .inl (.inr (.inr (.inr h)))
theorem yL.left{V}{B'}(G:yL base mb ub tv l t i j late sv lv ov A B O n wx)(J:jF (λk=>lv.ownBlock=some k) wx w')(a2:Ct w' base V B')(Y:∀k,V.ownBlock=some k->lv.ownBlock=some k\/wx.heap.size<=k):
  yL base mb ub tv l t i j late sv V ov A B' O n (w'.setCell ⟨ub,4,none⟩ V)/\vD mb ub sv lv ov sv V ov wx (w'.setCell ⟨ub,4,none⟩ V):=by
 have a3:=G.Iy;have a6:=J.size
 have a1:w'.heap[ub]?=some (.cells (tJ i j late sv lv ov) 167 (0,0)):=by
  rw[J.block ub a3 (λe=>(G.dl _ e).1 rfl)];exact G.cell
 have Z:∀g,V.ownBlock=some g->g≠ub:=λg I=>by
  rcases Y g I with e | e
  ·exact(G.dl g e).1
  ·omega
 have a0:∀g,sv.ownBlock=some g->V.ownBlock≠some g:=λg I e=>by
  rcases Y g e with U | U
  ·exact(G.ds g I).2.1 U
  ·have:=(vO G.sn I).2;omega
 have go:∀g,V.ownBlock=some g->ov.ownBlock≠some g:=λg I e=>by
  rcases Y g I with U | U
  ·exact(G.dl g U).2 e
  ·have:=(vO G.ot e).2;omega
 have W:jF (λk=>k=ub) w' (w'.setCell ⟨ub,4,none⟩ V):=jF.set (B:=λk=>k=ub) (jF.refl _ w') (p:=⟨ub,4,none⟩) (.inl rfl) _;have a4:=G.m0;have u0:=G.u0;have a5:jU w' mb tv l t n:=G.me.keep J (λe=>by have:=(vO G.lf e).1;omega) (λk h e=>by have:=(vO G.lf e).1;have:=G.t0 k h;omega);refine⟨⟨a5.keep W (λe=>by omega) (λk h e=>by have:=G.t0 k h;omega),?_,qX (qX G.sn J (λk h e=>(G.ds k h).2.1 e)) W (λk h e=>(G.ds k h).1 e),qX a2 W (λk h e=>Z k h e),qX (qX G.ot J (λk h e=>(G.dl k e).2 h)) W (λk h e=>G.do' k h e),a4,u0,G.t0,λk h=>⟨(G.ds k h).1,a0 k h,(G.ds k h).2.2⟩,λk h=>⟨Z k h,go k h⟩,G.do'⟩,⟨?_,λk h=>?_⟩⟩
 ·have:=lX w' ub 4 _ _ V a1;rw[this];rfl
 ·exact(J.mono (C:=λk=>k=mb\/MX ub sv lv ov k) (λk _ e=>.inr (.inr (.inr (.inl e))))).trans W (λk _ e=>.inr (.inl e))
 ·rcases h with h | h | h | h
  ·exact .inl (.inl h)
  ·exact .inl (.inr (.inl h))
  ·rcases Y k h with e | e
   ·exact .inl (.inr (.inr (.inl e)))
   ·exact .inr e
  ·exact .inl (.inr (.inr (.inr h)))
end
structure Stp where
 kind:Int
 p:BA
 t:BA
 jK:Int
 kZ:Int
 vK:Int
 zA:Int
 zD:Int
def sw(o:Stp):Array Value:=#[.int .i64 o.kind,.string o.p,.string o.t,.int .i64 o.jK,.int .i64 o.kZ,.int .i64 o.vK,.int .i64 o.zA,.int .i64 o.zD]
def opV(o:Stp):Value:=.agg (sw o)
def zFq:Stp:=⟨0,⟨#[]⟩,⟨#[]⟩,0,0,0,0,0⟩
