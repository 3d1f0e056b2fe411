import Derived.Test.YtebpgfodelggoaaGreatC26
set_option linter.all false
set_option maxRecDepth 100000
set_option maxHeartbeats 2000000
namespace Go.Proofs.YtebpgfodelggoaaGreat
open Go.RowKit _root_.Go.Proofs.Tryz Mt
def vH(w:World)(base:Nat)(v:Value)(b:List Bool):Prop:=w.ownsRow base 4 1 v b.length (b.map Value.bool)
theorem vH.below{w w' base v l}(h:vH w base v l)(j:Below w.heap.size w w'):vH w' base v l:=vW h j
theorem zBC:(prog.info? 4).map (λi=>(i.zero,i.size,i.bytes))=some (some (.bool false),1,1):=by kernel_rfl
theorem FN{w}{base}{v}{n}(h:w.ownsRow base 4 1 v n (madeCells (Value.bool false).cells (n*1)).toList):vH w base v (List.replicate n false):=by
 unfold vH;rw[sV,aJ]
 have e:(madeCells (Value.bool false).cells (n*1)).toList=List.replicate n (Value.bool false):=by
  rw[Nat.mul_one];exact eU _ _
 rw[e]at h;exact h
def pq(c:List zT)(kZ vK:Int)(k:Nat):List Bool:=(List.range k).map (kg c kZ vK)++List.replicate (c.length-k) false
theorem YJ c j h k(G:k<=c.length):(pq c j h k).length=c.length:=by simp[pq];omega
theorem Vs c j h k(G:k<c.length):pq c j h (k+1)=(pq c j h k).set k (kg c j h k):=by
 unfold pq;rw[show c.length-k=(c.length-(k+1))+1 by omega,wV,sU _ _ (by simp),rE];simp
theorem Vt c j h k(I:k<c.length)(G:kg c j h k=false):pq c j h (k+1)=pq c j h k:=by
 unfold pq;rw[show c.length-k=(c.length-(k+1))+1 by omega,wV,rE,rW,gZ];simp[G]
theorem zBD{c k}(h:k<c.length)(j:(c.getD k kC).op=8):tO c=true:=by
 have:=uf c (λi=>decide (i.op=8)) k c.length h (lF _) (by simpa using j)
 rwa [rT]at this
theorem Vu c j h base v w(b2:zY w base v c)(c3:c.length<=300)(d8:0<=h)(d9:h<=4294967295):
  Calls prog 45 #[v,.int .i64 j,.int .i64 h] w λe w'=>∃v',e=.returned v'/\vH w' w.heap.size v' (qO c j h)/\Below w.heap.size w w':=by
 obtain⟨d0,c2,c7,c8,c9⟩:=sK zBC;have d1:=hid b2;obtain⟨ao,cap,rfl⟩:=Av b2
 go_in
 go_wp2_with (first|(at_make;refine uN _ rfl (.tmp 11) (.tmp 11) 53 rfl w.heap.size 4 d0 (.bool false) 1 underlying53 c2 c7 c8 .i64 .i64 _ _ c.length rfl rfl rfl rfl (by rw[c9];omega) (by unfold maxLen;omega) (lF _) ?_;intro w1 a3 a1;clear b2))
 have d4:=(lK _ _).grown a1 (lF _) (λq b5=>by simp at b5);have a4:=hid (FN a3);clear a3 a1
 go_loopw [8] (λi wr=>∃k:Nat,k<=c.length/\i=.int .i64 k/\vH wr w.heap.size (.slice (some ⟨w.heap.size,0,none⟩) c.length c.length) (pq c j h k)/\Below w.heap.size w wr/\(c.take k).any (λi=>decide (i.op=8))=false) (λi _=>c.length-(intOf i).toNat)
 case atStart=>exact⟨0,gD _,rfl,a4.o,d4,rfl⟩
 case round =>
  obtain⟨k,d6,rfl,c4,W,c5⟩:=hrel;have a0:=hid c5;have U:=hid c4;have b6:=W.size;have J:Hid (zY wr base (.slice ao c.length cap) c):=d1.o.below W;clear c5 c4 a4;by_cases I:k<c.length
  ·rcases aj J.o with ⟨e0,_⟩ | ⟨e8,g,e3,c6,e5,e6,e7,c1⟩
   ·rw[e0]at I;simp at I
   ·simp only[oD,iE]at c6;obtain⟨rfl,rfl⟩:=c6;have e4:wr.cell? ⟨g,k*4,none⟩=some (.int .i64 (c.getD k kC).op):=c1 k 0 I (by omega);have a8:Hid ((c.take (k+1)).any (λi=>decide (i.op=8))=((c.take k).any (λi=>decide (i.op=8))||decide ((c.getD k kC).op=8))):=Bh c _ k I;have a6:Hid ((c.getD k kC).op=8->tO c=true):=λx=>zBD I x
    generalize e1:(c.getD k kC).op=o at *;clear e1 c1;cases c0:(o==8)
    ·have b9:Hid ((c.take (k+1)).any (λi=>decide (i.op=8))=false):=by
      have d3:¬o=8:=by simpa using c0
      show _=_;rw[a8.o,a0.o];simpa using d3
     clear a8 a6 a0;have a9:Hid (∀b,vw c k=b->CT 73 #[.slice (some ⟨g,0,none⟩) c.length cap,.int .i64 k] wr λe w'=>e=.returned (.bool b)/\wr=w'):=λb d5=>by rw[<-d5];exact YI c k base _ wr J.o I c3
     cases Y:vw c k
     ·have Z:Hid (kg c j h k=picked c k j h):=by show _=_;unfold kg;rw[Y];rfl
      have b0:Hid (vw c k=false):=Y;clear Y;have b8:Hid (CT 74 #[.slice (some ⟨g,0,none⟩) c.length cap,.int .i64 k,.int .i64 j,.int .i64 h] wr λe w'=>e=.returned (.bool (picked c k j h))/\Below wr.heap.size wr w'):=Vr c k j h base _ wr J.o I c3 d8 d9;have b7:Hid (pq c j h (k+1)=(pq c j h k).set k (picked c k j h)):=by show _=_;rw[Vs c j h k I,Z.o]
      clear Z;go_wp2_with fail
      refine(a9.o _ b0.o).mono ?_;rintro e w' ⟨rfl,rfl⟩;go_wp2_with fail
      refine b8.o.mono ?_;rintro e O ⟨rfl,b4⟩;have b3:Below w.heap.size w O:=W.trans (b4.mono b6);have a5:Hid (vH O w.heap.size (.slice (some ⟨w.heap.size,0,none⟩) c.length c.length) (pq c j h k)):=U.o.below b4;have a2:=YJ c j h k d6
      have f0:O.cell? ⟨w.heap.size,k,none⟩=some (.bool ((pq c j h k).getD k false)):=by
       have G:=a5.o;unfold vH at G;rw[a2]at G;have:=gU G k (by omega);rw[this,gN,lH,lN (by omega)];rfl
      have f1:O.frozen? ⟨w.heap.size,k,none⟩=false:=by
       have G:=a5.o;unfold vH at G;rw[a2]at G;exact rA G k
      have b1:Hid (vH (O.setCell ⟨w.heap.size,k,none⟩ (.bool (picked c k j h))) w.heap.size (.slice (some ⟨w.heap.size,0,none⟩) c.length c.length) (pq c j h (k+1))):=by
       have G:=a5.o;unfold vH at G;rw[a2]at G;have e2:=(uU G k (.bool (picked c k j h))).1;show vH _ _ _ _;unfold vH;rw[b7.o,gY,a2,uW];exact e2
      clear b4 U a5 J a2 b7 b8 a9;generalize (pq c j h k).getD k false=e9 at *;go_wp2_with fail
      go_roundw
      case rel=>exact⟨k+1,by omega,by go_num,b1.o,b3.setCell (lF _) _,b9.o⟩
      case measure=>simp[intOf];omega
     ·have Z:Hid (kg c j h k=false):=by show _=_;unfold kg;rw[Y];rfl
      have b0:Hid (vw c k=true):=Y;clear Y
      have b1:Hid (vH wr w.heap.size (.slice (some ⟨w.heap.size,0,none⟩) c.length c.length) (pq c j h (k+1))):=by
       show vH _ _ _ _;rw[Vt c j h k I Z.o];exact U.o
      clear Z U J;go_wp2_with fail
      refine(a9.o _ b0.o).mono ?_;rintro e w' ⟨rfl,rfl⟩;go_wp2_with fail
      go_roundw
      case rel=>exact⟨k+1,by omega,by go_num,b1.o,W,b9.o⟩
      case measure=>simp[intOf];omega
    ·have a7:Hid (qO c j h=List.replicate c.length false):=by
      show _=_;unfold qO;rw[lG (a6.o (by simpa using c0))]
     clear a8 a6 a0 U J;go_wp2_with (first|(at_make;refine uN _ rfl (.tmp 26) (.tmp 26) 53 rfl w.heap.size 4 d0 (.bool false) 1 underlying53 c2 c7 c8 .i64 .i64 _ _ c.length rfl rfl rfl rfl (by rw[c9];omega) (by unfold maxLen;omega) b6 ?_;intro O a3 a1))
     have b3:Below w.heap.size w O:=W.grown a1 b6 (λq b5=>by simp at b5);have a4:=hid (FN a3);clear a3 a1;go_wp2_with fail
     go_ret;exact⟨_,rfl,by rw[a7.o];exact a4.o,b3⟩
  ·have d7:k=c.length:=by omega
   subst d7
   have a7:Hid (qO c j h=pq c j h c.length):=by
    have d2:tO c=false:=by have:=a0.o;rwa [rT]at this
    show _=_;unfold qO pq;rw[d2];simp
   clear J a0;go_wp2_with fail
   go_ret;exact⟨_,rfl,by rw[a7.o];exact U.o,W⟩
theorem JX h j:
  (decide (0<=h)=false/\jW h j=false)\/
  (decide (0<=h)=true/\decide (h<=4)=false/\jW h j=false)\/
  (decide (0<=h)=true/\decide (h<=4)=true/\decide (0<=j)=false/\jW h j=false)\/
  (decide (0<=h)=true/\decide (h<=4)=true/\decide (0<=j)=true/\decide (j<=4294967295)=false/\jW h j=false)\/
  (decide (0<=h)=true/\decide (h<=4)=true/\decide (0<=j)=true/\decide (j<=4294967295)=true/\jW h j=true):=by
 unfold jW;simp only[gM,lW];omega
theorem Nc I G w:
  Calls prog 44 #[.int .i64 I,.int .i64 G] w λe w'=>e=.returned (.bool (jW I G))/\w=w':=by
 rcases JX I G with ⟨h,e⟩ | ⟨h,j,e⟩ | ⟨h,j,J,e⟩ | ⟨h,j,J,O,e⟩ | ⟨h,j,J,O,e⟩
 all_goals
  rw[e];clear e
  go_in
  go_wp2_with fail
  go_ret;exact⟨rfl,rfl⟩
def su(w:World)(base:Nat)(v:Value)(b:List Int):Prop:=w.ownsRow base 3 1 v b.length (b.map (Value.int .i64))
theorem su.below{w w' base v l}(h:su w base v l)(j:Below w.heap.size w w'):su w' base v l:=vW h j
theorem zEI:(prog.info? 3).map (λi=>(i.zero,i.size,i.bytes))=some (some (.int .i64 0),1,8):=by kernel_rfl
theorem Qp(p:BA) c w(Z:p.size<=1000)(U:0<=c)(W:c<=255):
  Calls prog 105 #[.string p,.int .u8 c] w λe w'=>e=.returned (.bool (hasB p c))/\w=w':=by
 go_in
 go_wp2_with fail
 go_loop [5] (λi=>∃k:Nat,k<=p.size/\i=.int .i64 k/\Gb p c k=false) (λi=>p.size-(intOf i).toNat)
 case atStart=>exact⟨0,gD _,rfl,rfl⟩
 case round =>
  obtain⟨k,Y,rfl,J⟩:=hrel;have G:=hid J;clear J;by_cases j:k<p.size
  ·cases I:(((p[k]'j).toNat:Int)==c)
   ·have O:Hid (Gb p c (k+1)=false):=by show _=_;rw[KV p c k j,G.o,I];rfl
    go_wp2_with fail
    go_round
    case rel=>exact⟨k+1,by omega,by go_num,O.o⟩
    case measure=>simp[intOf];omega
   ·have h:=hid (Rp p c k j I);go_wp2_with fail
    go_ret;exact⟨jM (by rw[h.o]),rfl⟩
  ·have h:Hid (hasB p c=false):=by
    have:=G.o
    rwa [show k=p.size by omega,NH]at this
   go_wp2_with fail
   go_ret;exact⟨jM (by rw[h.o]),rfl⟩
def nS(s:List Int):Value:=.agg (s.map (Value.int .i64)).toArray
structure Keep (wb gk:Nat) (w w':World):Prop where
 os:w'.os=w.os
 tape:w'.tape=w.tape
 output:w'.output=w.output
 size:w.heap.size<=w'.heap.size
 block:∀k,k<w.heap.size->k≠wb->k≠gk->w'.heap[k]?=w.heap[k]?
theorem Keep.refl wb gk w:Keep wb gk w w:=⟨rfl,rfl,rfl,lF _,λ_ _ _ _=>rfl⟩
theorem Keep.trans{wb gk a b c}(h:Keep wb gk a b)(k:Keep wb gk b c):Keep wb gk a c:=
 ⟨k.os.trans h.os,k.tape.trans h.tape,k.output.trans h.output,gX h.size k.size,λi I j G=>(k.block i (rF I h.size) j G).trans (h.block i I j G)⟩
theorem Keep.below{wb gk a b}(h:Below a.heap.size a b):Keep wb gk a b:=⟨h.os,h.tape,h.output,h.size,λi j _ _=>h.block i j⟩
theorem Keep.alloc{wb gk a w}(h:Keep wb gk a w) o:Keep wb gk a (w.alloc o):=
 h.trans (Keep.below ((lK _ _).alloc (lF _) o))
theorem Keep.drew{wb gk a w}(h:Keep wb gk a w):Keep wb gk a w.drew:=h.trans (Keep.below (lK _ _).drew)
theorem Keep.set{wb gk a w}(h:Keep wb gk a w){p}(J:p.block=wb\/p.block=gk\/a.heap.size<=p.block) u:Keep wb gk a (w.setCell p u):=
 ⟨h.os,h.tape,h.output,by have:=h.size;simpa[World.setCell]using this,λi I j G=>by
  rw[lS _ _ _ _ (by omega)];exact h.block i I j G⟩
structure kP (w:World) (wb gc gi ga gk:Nat) (cc ci ca ck:Nat) (c:List zT) (zL:BA) (qU:List Bool) (ar:List Int) (zD:Int) (kn:List Bool) (zA vX:Int) (kI:Bool):Prop where
 cell:w.heap[wb]?=some (.cells #[.slice (some ⟨gc,0,none⟩) c.length cc,.string zL,.slice (some ⟨gi,0,none⟩) c.length ci,.slice (some ⟨ga,0,none⟩) c.length ca,.slice (some ⟨gk,0,none⟩) kn.length ck,.int .i64 zA,.int .i64 zD,.int .i64 vX,.bool kI] 55 (0,0))
 code:zY w 0 (.slice (some ⟨gc,0,none⟩) c.length cc) c
 ins:vH w 0 (.slice (some ⟨gi,0,none⟩) qU.length ci) qU
 around:su w 0 (.slice (some ⟨ga,0,none⟩) ar.length ca) ar
 known:vH w 0 (.slice (some ⟨gk,0,none⟩) kn.length ck) kn
 li:qU.length=c.length
 la:ar.length=c.length
 apart:gc≠wb/\gi≠wb/\ga≠wb/\gk≠wb/\gc≠gk/\gi≠gk/\ga≠gk
theorem II{w}{g cap}{c}(G:vH w 0 (.slice (some ⟨g,0,none⟩) c.length cap) c):c.length<=cap/\g<w.heap.size/\(∀h,h<c.length->w.cell? ⟨g,h,none⟩=some (.bool (c.getD h false)))/\(∀h,w.frozen? ⟨g,h,none⟩=false):=by
 rcases G.2 with ⟨j,_⟩ | ⟨Z,W,Y,j,a3,O,I,a0,a1,a2⟩
 ·simp at j
 ·simp only[oD,oP,uO,wJ,iE]at j;obtain⟨rfl,rfl⟩:=j;refine⟨I,(lM.1 O).1,λh U=>?_,λh=>rA G h⟩;have J:=gU G h (by omega);rw[J,gN,lH,lN U];rfl
theorem zBF{w}{g cap}{c}(G:su w 0 (.slice (some ⟨g,0,none⟩) c.length cap) c):c.length<=cap/\g<w.heap.size/\(∀h,h<c.length->w.cell? ⟨g,h,none⟩=some (.int .i64 (c.getD h 0))):=by
 rcases G.2 with ⟨j,_⟩ | ⟨Z,W,Y,j,a3,O,I,a0,a1,a2⟩
 ·simp at j
 ·simp only[oD,oP,uO,wJ,iE]at j;obtain⟨rfl,rfl⟩:=j;refine⟨I,(lM.1 O).1,λh U=>?_⟩;have J:=gU G h (by omega);rw[J,gN,lH,lN U];rfl
theorem zBG{w}{wb gc gi ga gk cc ci ca ck}{c}{zL}{qU}{ar}{zD}{kn}{zA vX}{kI}
  (h:kP w wb gc gi ga gk cc ci ca ck c zL qU ar zD kn zA vX kI) (s) (pc:Nat) (W:s[0]?=some (pc:Int)) (a1:pc<c.length) (a0:c.length<=300) (J:qU.getD pc false=false):
  Calls prog 75 #[.pointer (some ⟨wb,0,none⟩),nS s] w λe w'=>e=.returned (.bool false)/\Keep wb gk w w'/\Below w.heap.size w w':=by
 have I:=zB h.cell;have a2:=(lM.1 h.cell).1;have O:=I.1 2;have j:=II h.ins;have U:w.cell? ⟨gi,pc,none⟩=some (.bool false):=by rw[j.2.2.1 pc (by rw[h.li];omega),J]
 have Z:=j.2.1;have Y:c.length<=ci:=by have:=j.1;rw[h.li]at this;exact this
 clear I j h;unfold nS
 go_in
 go_wp2_with fail
 go_quiet (fail)
 go_wp2_with fail
 go_ret;have G:=below_drewN ((lK w.heap.size w).alloc (lF _) (.cells (s.map (Value.int .i64)).toArray 93));exact⟨rfl,Keep.below (G _),G _⟩
theorem zBH pc T j n L(J:pc<L)(O:j<=T)(U:n<=12)(G:pc+1=L->n<=11):(pc*(T+1)+j)*12+n<L*(T+1)*12:=by
 by_cases h:pc+1=L
 ·have:=G h;subst h;rw[oV pc 1];omega
 ·have I:(pc+2)*(T+1)<=L*(T+1):=oO _ (by omega);rw[oV]at I;omega
theorem zEL(pc T:Nat)(h:pc<=300)(j:T<=60):0<=(pc)*((T:Int)+1)/\(pc)*((T:Int)+1)<=18300:=by
 refine⟨aF (by omega) (by omega),?_⟩;have:=Int.mul_le_mul (show(pc:Int)<=300 by omega) (show(T:Int)+1<=61 by omega) (by omega) (by omega);omega
section
variable {w:World} {wb gc gi ga gk cc ci ca ck:Nat} {c:List zT} {zL:BA} {qU:List Bool} {ar:List Int} {zD:Int} {kn:List Bool} {zA vX:Int} {kI:Bool}
theorem yR{w w':World}{e}{s g n cap}{xs}(h:w.ownsRow 0 e s (.slice (some ⟨g,0,none⟩) n cap) n xs)(O:w'.heap[g]?=w.heap[g]?):w'.ownsRow 0 e s (.slice (some ⟨g,0,none⟩) n cap) n xs:=by
 refine⟨h.1,?_⟩;rcases h.2 with I | ⟨Z,Y,G,j,J,U,W⟩
 ·exact .inl I
 ·simp only[oD,oP,uO,wJ,iE]at j;obtain⟨rfl,rfl⟩:=j;exact .inr ⟨g,cap,G,rfl,J,by rw[O];exact U,W⟩
theorem kP.mem{w'}(h:kP w wb gc gi ga gk cc ci ca ck c zL qU ar zD kn zA vX kI)(j:w'.heap[wb]?=w.heap[wb]?)(G:w'.heap[gc]?=w.heap[gc]?)(I:w'.heap[gi]?=w.heap[gi]?)(J:w'.heap[ga]?=w.heap[ga]?)(O:w'.heap[gk]?=w.heap[gk]?):
  kP w' wb gc gi ga gk cc ci ca ck c zL qU ar zD kn zA vX kI:=
 ⟨by rw[j];exact h.cell,yR h.code G,yR h.ins I,yR h.around J,yR h.known O,h.li,h.la,h.apart⟩
theorem kP.lt(h:kP w wb gc gi ga gk cc ci ca ck c zL qU ar zD kn zA vX kI):wb<w.heap.size/\gc<w.heap.size/\gi<w.heap.size/\ga<w.heap.size/\gk<w.heap.size:=by
 have key:∀{e:TypeId} {s g n cap:Nat} {xs:List Value},w.ownsRow 0 e s (.slice (some ⟨g,0,none⟩) n cap) n xs->g<w.heap.size:=λj=>(lY j _ rfl).2
 exact⟨(lM.1 h.cell).1,key h.code,key h.ins,key h.around,key h.known⟩
theorem kP.below{w'}(j:kP w wb gc gi ga gk cc ci ca ck c zL qU ar zD kn zA vX kI)(h:Below w.heap.size w w'):kP w' wb gc gi ga gk cc ci ca ck c zL qU ar zD kn zA vX kI:=by
 obtain⟨G,I,J,O,U⟩:=j.lt;exact j.mem (h.block _ G) (h.block _ I) (h.block _ J) (h.block _ O) (h.block _ U)
theorem kP.SH(h:kP w wb gc gi ga gk cc ci ca ck c zL qU ar zD kn zA vX kI) r:kP (w.setCell ⟨wb,5,none⟩ (.int .i64 r)) wb gc gi ga gk cc ci ca ck c zL qU ar zD kn r vX kI:=by
 obtain⟨I,J,O,U,W,Y,Z⟩:=h.apart;have j:=lX w wb 5 _ _ (.int .i64 r) h.cell;have o:∀g,g≠wb->(w.setCell ⟨wb,5,none⟩ (.int .i64 r)).heap[g]?=w.heap[g]?:=λg G=>lS _ _ _ _ G
 exact⟨j,yR h.code (o _ I),yR h.ins (o _ J),yR h.around (o _ O),yR h.known (o _ U),h.li,h.la,h.apart⟩
theorem kP.zBI(h:kP w wb gc gi ga gk cc ci ca ck c zL qU ar zD kn zA vX kI) r:kP (w.setCell ⟨wb,7,none⟩ (.int .i64 r)) wb gc gi ga gk cc ci ca ck c zL qU ar zD kn zA r kI:=by
 obtain⟨I,J,O,U,W,Y,Z⟩:=h.apart;have j:=lX w wb 7 _ _ (.int .i64 r) h.cell;have o:∀g,g≠wb->(w.setCell ⟨wb,7,none⟩ (.int .i64 r)).heap[g]?=w.heap[g]?:=λg G=>lS _ _ _ _ G
 exact⟨j,yR h.code (o _ I),yR h.ins (o _ J),yR h.around (o _ O),yR h.known (o _ U),h.li,h.la,h.apart⟩
theorem kP.zBJ(h:kP w wb gc gi ga gk cc ci ca ck c zL qU ar zD kn zA vX kI) r:kP (w.setCell ⟨wb,8,none⟩ (.bool r)) wb gc gi ga gk cc ci ca ck c zL qU ar zD kn zA vX r:=by
 obtain⟨I,J,O,U,W,Y,Z⟩:=h.apart;have j:=lX w wb 8 _ _ (.bool r) h.cell;have o:∀g,g≠wb->(w.setCell ⟨wb,8,none⟩ (.bool r)).heap[g]?=w.heap[g]?:=λg G=>lS _ _ _ _ G
 exact⟨j,yR h.code (o _ I),yR h.ins (o _ J),yR h.around (o _ O),yR h.known (o _ U),h.li,h.la,h.apart⟩
theorem kP.know(h:kP w wb gc gi ga gk cc ci ca ck c zL qU ar zD kn zA vX kI) i:kP (w.setCell ⟨gk,i,none⟩ (.bool true)) wb gc gi ga gk cc ci ca ck c zL qU ar zD (kn.set i true) zA vX kI:=by
 obtain⟨W,Y,Z,I,J,O,U⟩:=h.apart;have G:=(uU h.known i (.bool true)).1;have o:∀g,g≠gk->(w.setCell ⟨gk,i,none⟩ (.bool true)).heap[g]?=w.heap[g]?:=λg j=>lS _ _ _ _ j
 refine⟨?_,yR h.code (o _ J),yR h.ins (o _ O),yR h.around (o _ U),?_,h.li,h.la,h.apart⟩
 ·rw[o wb (iB I),gY];exact h.cell
 ·unfold vH;rw[gY,uW];exact G
end
theorem zDv{w}{wb gc gi ga gk cc ci ca ck}{c}{zL}{qU}{ar}{zD}{kn}{zA vX}{kI}
  (G:kP w wb gc gi ga gk cc ci ca ck c zL qU ar zD kn zA vX kI) (s) (pc h a:Nat) (e1:s[0]?=some (pc:Int)) (c7:s[1]?=some (h:Int)) (c9:s.length=44) (c1:pc<c.length) (c2:h<=zL.size) (f2:c.length<=300) (d0:zL.size<=60) (b8:qU.getD pc false=true)
  (b7:ar.getD pc 0=(a)) (e2:a<=300) (c0:pc+1=c.length->a<=11) (b9:kn.length=c.length*(zL.size+1)*12) (f6:0<=zA) (f7:zA<=5000):
  Calls prog 75 #[.pointer (some ⟨wb,0,none⟩),nS s] w λe w'=>e=.returned (.bool (kn.getD (Mt.keyOf s pc h zL.size a) false))/\Keep wb gk w w'/\kP w' wb gc gi ga gk cc ci ca ck c zL qU ar zD (yV kn zA (Mt.keyOf s pc h zL.size a)) (qB kn zA (Mt.keyOf s pc h zL.size a)) vX kI:=by
 have W:=hid G;have U:=zB G.cell;have f9:=(lM.1 G.cell).1;have d4:=U.1 1;have d5:=U.1 2;have d6:=U.1 3;have d7:=U.1 4;have d8:=U.1 5;have g1:=U.2 5;have a3:=II G.ins;have a2:=zBF G.around;have a0:=II G.known;have e0:w.cell? ⟨gi,pc,none⟩=some (.bool true):=by rw[a3.2.2.1 pc (by rw[G.li];omega),b8]
 have d9:w.cell? ⟨ga,pc,none⟩=some (.int .i64 (a:Int)):=by rw[a2.2.2 pc (by rw[G.la];omega),b7]
 have e7:=a3.2.1;have e6:=a2.2.1;have e8:=a0.2.1;have e4:c.length<=ci:=by have:=a3.1;rw[G.li]at this;exact this
 have e3:c.length<=ca:=by have:=a2.1;rw[G.la]at this;exact this
 have e5:=a0.1;have b1:=hid a0.2.2.1;have b5:=hid a0.2.2.2
 have a6:Hid (∀k,k<12->s[32+k]?=some (gt s (32+k))):=λk e9=>by
  unfold gt;rw[lH,lN (by omega)];rfl
 have b2:Hid (gt s 1=(h:Int)):=by show _=_;unfold gt;rw[lH,c7];rfl
 have b0:=zEL pc zL.size (by omega) d0;have f4:=b0.1;have f5:=b0.2;have c4:=G.apart;have g0:=c4.2.2.2.1;have b3:=hid b9;clear U a3 a2 a0 G b7 b8 b0 c4 c9 b9;unfold nS
 go_in
 go_wp2_with fail
 go_quiet (fail)
 go_wp2_with fail
 go_loopw [5,6] (λn i wr=>∃k d:Nat,k<=12/\k<=a/\i=.int .i64 k/\n=.int .i64 (kR s k)/\wr=(w.alloc (.cells (s.map (Value.int .i64)).toArray 93)).drewN d) (λ_ i _=>12-(intOf i).toNat)
 case atStart=>exact⟨0,_,by omega,by omega,rfl,rfl,rfl⟩
 case round =>
  obtain⟨k,d,f0,f1,rfl,rfl,rfl⟩:=hrel;have f3:=BN s k;by_cases a8:k<a
  ·by_cases c8:k<12
   ·have f8:=a6.o k c8;have b4:=hid (BM s k);have b6:decide ((k:Int)<(a:Int))=true:=by simpa using a8
    have c5:decide ((k:Int)<12)=true:=by simp;omega
    go_wp2_with fail
    go_quiet (fail)
    go_wp2_with fail
    cases c3:(gt s (32+k)==(h:Int))
    ·have a4:Hid (kR s (k+1)=kR s k):=by show _=_;rw[b4.o,b2.o,c3];rfl
     go_quiet (fail)
     go_wp2_with fail
     go_roundw
     case rel=>exact⟨k+1,_,by omega,by omega,by go_num,by rw[a4.o],rfl⟩
     case measure=>simp[intOf];omega
    ·have a4:Hid (kR s (k+1)=kR s k+1):=by show _=_;rw[b4.o,b2.o,c3];rfl
     go_quiet (fail)
     go_wp2_with fail
     go_roundw
     case rel=>exact⟨k+1,_,by omega,by omega,by go_num,by rw[a4.o];go_num,rfl⟩
     case measure=>simp[intOf];omega
   ·have b6:decide ((k:Int)<(a:Int))=true:=by simpa using a8
    have c5:decide ((k:Int)<12)=false:=by simp;omega
    have a5:Hid (kR s k=ZW s a):=by show _=_;unfold ZW;rw[show min a 12=k by omega]
    have a9:=Pj s a
    have a7:(pc*(zL.size+1)+h)*12+kR s k<kn.length:=by
     rw[b3.o];exact zBH pc zL.size h _ c.length c1 c2 (by omega) (λe=>by have:=c0 e;omega)
    have c6:=b1.o _ a7;have d3:w.frozen? ⟨gk,(pc*(zL.size+1)+h)*12+kR s k,none⟩=false:=b5.o _;have Y:Hid (Mt.keyOf s pc h zL.size a=(pc*(zL.size+1)+h)*12+kR s k):=by show _=_;unfold Mt.keyOf;rw[a5.o]
    have d1:(0:Int)<=((pc:Int)*((zL.size:Int)+1)+(h:Int))*12+(kR s k:Int):=by omega
    have d2:((pc:Int)*((zL.size:Int)+1)+(h:Int))*12+(kR s k:Int)<(kn.length:Int):=by
     have e:(((pc*(zL.size+1)+h)*12+kR s k:Nat):Int)=((pc:Int)*((zL.size:Int)+1)+(h:Int))*12+(kR s k:Int):=by simp
     omega
    clear a9 a6;generalize a1:kn.getD ((pc*(zL.size+1)+h)*12+kR s k) false=Z at *;have j:Hid (kn.getD (Mt.keyOf s pc h zL.size a) false=Z):=by show _=_;rw[Y.o];exact a1
    clear a1;cases Z
    ·by_cases O:0<zA
     ·have I:Hid (yV kn zA (Mt.keyOf s pc h zL.size a)=kn.set ((pc*(zL.size+1)+h)*12+kR s k) true):=by show _=_;unfold yV;rw[j.o,lC (by simp),lG O,Y.o]
      have J:Hid (qB kn zA (Mt.keyOf s pc h zL.size a)=zA-1):=by show _=_;unfold qB;rw[j.o,lC (by simp),lG O]
      go_wp2_with fail
      go_quiet (fail)
      go_wp2_with fail
      go_quiet (fail)
      go_wp2_with fail
      go_ret;refine⟨jM j.o.symm,?_,?_⟩
      ·exact Keep.set (p:=⟨gk,_,none⟩) (Keep.set (p:=⟨wb,5,none⟩) (Keep.below (below_drewN ((lK _ _).alloc (lF _) _) _)) (gG rfl) _) (lZ (gG rfl)) _
      ·rw[I.o,J.o];exact((W.o.below (below_drewN ((lK _ _).alloc (lF _) _) _)).SH (zA-1)).know _
     ·have I:Hid (yV kn zA (Mt.keyOf s pc h zL.size a)=kn):=by show _=_;unfold yV;rw[j.o,lC (by simp),lC O]
      have J:Hid (qB kn zA (Mt.keyOf s pc h zL.size a)=zA):=by show _=_;unfold qB;rw[j.o,lC (by simp),lC O]
      go_wp2_with fail
      go_quiet (fail)
      go_wp2_with fail
      go_quiet (fail)
      go_wp2_with fail
      go_ret;refine⟨jM j.o.symm,Keep.below (below_drewN ((lK _ _).alloc (lF _) _) _),?_⟩;rw[I.o,J.o];exact W.o.below (below_drewN ((lK _ _).alloc (lF _) _) _)
    ·have I:Hid (yV kn zA (Mt.keyOf s pc h zL.size a)=kn):=by show _=_;unfold yV;rw[j.o,lG rfl]
     have J:Hid (qB kn zA (Mt.keyOf s pc h zL.size a)=zA):=by show _=_;unfold qB;rw[j.o,lG rfl]
     go_wp2_with fail
     go_quiet (fail)
     go_wp2_with fail
     go_quiet (fail)
     go_wp2_with fail
     go_ret;refine⟨jM j.o.symm,Keep.below (below_drewN ((lK _ _).alloc (lF _) _) _),?_⟩;rw[I.o,J.o];exact W.o.below (below_drewN ((lK _ _).alloc (lF _) _) _)
  ·have b6:decide ((k:Int)<(a:Int))=false:=by simpa using a8
   have a5:Hid (kR s k=ZW s a):=by show _=_;unfold ZW;rw[show min a 12=k by omega]
   have a9:=Pj s a
   have a7:(pc*(zL.size+1)+h)*12+kR s k<kn.length:=by
    rw[b3.o];exact zBH pc zL.size h _ c.length c1 c2 (by omega) (λe=>by have:=c0 e;omega)
   have c6:=b1.o _ a7;have d3:w.frozen? ⟨gk,(pc*(zL.size+1)+h)*12+kR s k,none⟩=false:=b5.o _;have Y:Hid (Mt.keyOf s pc h zL.size a=(pc*(zL.size+1)+h)*12+kR s k):=by show _=_;unfold Mt.keyOf;rw[a5.o]
   have d1:(0:Int)<=((pc:Int)*((zL.size:Int)+1)+(h:Int))*12+(kR s k:Int):=by omega
   have d2:((pc:Int)*((zL.size:Int)+1)+(h:Int))*12+(kR s k:Int)<(kn.length:Int):=by
    have e:(((pc*(zL.size+1)+h)*12+kR s k:Nat):Int)=((pc:Int)*((zL.size:Int)+1)+(h:Int))*12+(kR s k:Int):=by simp
    omega
   clear a9 a6;generalize a1:kn.getD ((pc*(zL.size+1)+h)*12+kR s k) false=Z at *;have j:Hid (kn.getD (Mt.keyOf s pc h zL.size a) false=Z):=by show _=_;rw[Y.o];exact a1
   clear a1;cases Z
   ·by_cases O:0<zA
    ·have I:Hid (yV kn zA (Mt.keyOf s pc h zL.size a)=kn.set ((pc*(zL.size+1)+h)*12+kR s k) true):=by show _=_;unfold yV;rw[j.o,lC (by simp),lG O,Y.o]
     have J:Hid (qB kn zA (Mt.keyOf s pc h zL.size a)=zA-1):=by show _=_;unfold qB;rw[j.o,lC (by simp),lG O]
     go_wp2_with fail
     go_quiet (fail)
     go_wp2_with fail
     go_quiet (fail)
     go_wp2_with fail
     go_ret;refine⟨jM j.o.symm,?_,?_⟩
     ·exact Keep.set (p:=⟨gk,_,none⟩) (Keep.set (p:=⟨wb,5,none⟩) (Keep.below (below_drewN ((lK _ _).alloc (lF _) _) _)) (gG rfl) _) (lZ (gG rfl)) _
     ·rw[I.o,J.o];exact((W.o.below (below_drewN ((lK _ _).alloc (lF _) _) _)).SH (zA-1)).know _
    ·have I:Hid (yV kn zA (Mt.keyOf s pc h zL.size a)=kn):=by show _=_;unfold yV;rw[j.o,lC (by simp),lC O]
     have J:Hid (qB kn zA (Mt.keyOf s pc h zL.size a)=zA):=by show _=_;unfold qB;rw[j.o,lC (by simp),lC O]
     go_wp2_with fail
     go_quiet (fail)
     go_wp2_with fail
     go_quiet (fail)
     go_wp2_with fail
     go_ret;refine⟨jM j.o.symm,Keep.below (below_drewN ((lK _ _).alloc (lF _) _) _),?_⟩;rw[I.o,J.o];exact W.o.below (below_drewN ((lK _ _).alloc (lF _) _) _)
   ·have I:Hid (yV kn zA (Mt.keyOf s pc h zL.size a)=kn):=by show _=_;unfold yV;rw[j.o,lG rfl]
    have J:Hid (qB kn zA (Mt.keyOf s pc h zL.size a)=zA):=by show _=_;unfold qB;rw[j.o,lG rfl]
    go_wp2_with fail
    go_quiet (fail)
    go_wp2_with fail
    go_quiet (fail)
    go_wp2_with fail
    go_ret;refine⟨jM j.o.symm,Keep.below (below_drewN ((lK _ _).alloc (lF _) _) _),?_⟩;rw[I.o,J.o];exact W.o.below (below_drewN ((lK _ _).alloc (lF _) _) _)
