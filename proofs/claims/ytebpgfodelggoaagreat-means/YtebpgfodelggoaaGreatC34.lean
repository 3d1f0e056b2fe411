import Derived.Test.YtebpgfodelggoaaGreatC31
set_option linter.all false
set_option maxRecDepth 100000
set_option maxHeartbeats 40000000
namespace Go.Proofs.YtebpgfodelggoaaGreat
open Go.RowKit _root_.Go.Proofs.Tryz Mt
theorem zEO(w:World) A B C D:((((w.alloc A).alloc B).alloc C).alloc D).heap[w.heap.size+1+1+1]?=some D:=by
 have:(((w.alloc A).alloc B).alloc C).heap.size=w.heap.size+1+1+1:=by simp
 rw[<-this,gF]
theorem zDy(w:World) A B C D:((((w.alloc A).alloc B).alloc C).alloc D).heap[w.heap.size]?=some A:=by
 rw[kQ _ _ _ (by simp;omega)];exact qw _ _ _ _
theorem zDz(w:World) A B C D:((((w.alloc A).alloc B).alloc C).alloc D).heap[w.heap.size+1]?=some B:=by
 rw[kQ _ _ _ (by simp),kQ _ _ _ (by simp)];have:(w.alloc A).heap.size=w.heap.size+1:=by simp
 rw[<-this,gF]
theorem zDA(w:World) A B C D:((((w.alloc A).alloc B).alloc C).alloc D).heap[w.heap.size+1+1]?=some C:=by
 rw[kQ _ _ _ (by simp)];exact vv _ _ _ _
theorem zEP w A B C D:Below w.heap.size w ((((w.alloc A).alloc B).alloc C).alloc D):=
 ((((lK _ _).alloc (lF _) _).alloc (by simp) _).alloc (by simp;omega) _).alloc (by simp;omega) _
theorem bM{w:World}{b}{s:List Int}{t}(h:w.heap[b]?=some (.cells (s.map (Value.int .i64)).toArray t (0,0)))(i)(v):(w.setCell ⟨b,i,none⟩ (.int .i64 v)).heap[b]?=some (.cells ((s.set i v).map (Value.int .i64)).toArray t (0,0)):=by
 rw[lX w b i _ _ _ h,zEM]
theorem fq{w:World}{b}{s:List Int}{t}(h:w.heap[b]?=some (.cells (s.map (Value.int .i64)).toArray t (0,0)))(i)(v)(j:s[i]?=some v):w.cell? ⟨b,i,none⟩=some (.int .i64 v):=by
 rw[(zB h).1];simp[j]
theorem og{w:World}{b}{s:List Int}{t}(h:w.heap[b]?=some (.cells (s.map (Value.int .i64)).toArray t (0,0)))(i):w.frozen? ⟨b,i,none⟩=false:=(zB h).2 i
theorem Keep.blk{wb gk a b}(h:Keep wb gk a b) k(I:k<a.heap.size)(j:k≠wb)(G:k≠gk):b.heap[k]?=a.heap[k]?:=h.block k I j G
theorem EY b t:∀j o(w:World)(L:List Value),w.heap[b]?=some (.cells L.toArray t (0,0))->o+j.length<=L.length->(w.setCells b o j).heap[b]?=some (.cells (L.take o++(j++L.drop (o+j.length))).toArray t (0,0))
 | [],o,w,L,h,_=>by
  show w.heap[b]?=_;rw[h];simp
 | v::r,o,w,L,h,hl=>by
  have G:=lX w b o _ t v h;rw[lD]at G;have J:=EY b t r (o+1) (w.setCell ⟨b,o,none⟩ v) (L.set o v) G (by simp at hl |-;omega);show((w.setCell ⟨b,o,none⟩ v).setCells b (o+1) r).heap[b]?=_;rw[J];have I:o<L.length:=by simp at hl;omega
  have e:(L.set o v).take (o+1)++(r++(L.set o v).drop (o+1+r.length))=L.take o++((v::r)++L.drop (o+(v::r).length)):=by
   rw[List.drop_set_of_lt (by omega),List.take_set,sP I,sU _ _ (by simp;omega)];simp[iW (Nat.le_of_lt I)];congr 1;omega
  rw[e]
theorem Mf{G}{I}{j}{a}{w}{Q}(U:j.guard=none)(x)(Y:j.op=.load 27 x)
  (b) (a0:a.eval x=.pointer (some ⟨b,2,none⟩)) {t} (r:List Int) (Z:r.length=44) (O:w.heap[b]?=some (.cells (r.map (Value.int .i64)).toArray t (0,0)))
  (J:wpList prog G Q I (a.put j.dst (.agg (((r.map (Value.int .i64)).drop 2).take 20).toArray)) w):wpList prog G Q (j::I) a w:=
 wpList_load_mid U _ x Y b 2 a0 (((r.drop 2).take 20).map (Value.int .i64)) _ (λa1 v h=>by
  rw[(zB O).1];rw[gN]at h;by_cases W:a1<20
  ·rw[oK W,sW]at h;simp[<-h]
  ·rw[gQ (by simp;omega)]at h;simp at h) underlying27 rfl (by rw[Cy];simp[Z]) (by rw[List.map_take,List.map_drop];exact J)
theorem JZ{U}{W}{h}{a}{w}{Q}(a0:h.guard=none)(x y)(a3:h.op=.store 27 x y)
  (b) (s r:List Int) (a4:s.length=44) (j:r.length=44) (a5:a.eval x=.pointer (some ⟨b,2,none⟩)) (O:a.eval y=.agg (((r.map (Value.int .i64)).drop 2).take 20).toArray) {t} (G:w.heap[b]?=some (.cells (s.map (Value.int .i64)).toArray t (0,0)))
  (Y:∀w2,w2.heap[b]?=some (.cells ((zl s r).map (Value.int .i64)).toArray t (0,0))->(∀k,k≠b->w2.heap[k]?=w.heap[k]?)->w2.heap.size=w.heap.size->(∀L,L<=b->Below L w w2)->wpList prog U Q W (a.put h.dst undef) w2):wpList prog U Q (h::W) a w:=by
 have I:=zB G;rw[<-List.map_drop,<-List.map_take]at O;have J:(((r.drop 2).take 20).map (Value.int .i64)).length=20:=by simp[j]
 refine wpList_store_mid a0 _ x y a3 b 2 _ a5 O (λa6 a1=>?_) (by rw[Cy];simp[j]) (yA _) ?_
 ·have a7:a6<20:=by simpa[j]using a1
  rw[I.1,oI,gN,lN (by omega)];exact⟨rfl,I.2 _⟩
 ·refine Y _ ?_ (λk a2=>yM b _ 2 w k a2) (below_setCells b _ 2 w 0 (gD _)).2 (λL Z=>(below_setCells b _ 2 w L Z).1);have:=EY b t (((r.drop 2).take 20).map (Value.int .i64)) 2 w _ G (by rw[J];simp[a4]);rw[J]at this;show(w.setCells b 2 (((r.drop 2).take 20).map (Value.int .i64))).heap[b]?=_;rw[this];simp[zl]
theorem Keep.low{wb gk w v j}(k:Keep wb gk w v)(b:Below w.heap.size v j):Keep wb gk w j:=⟨b.os.trans k.os,b.tape.trans k.tape,b.output.trans k.output,gX k.size b.size,λi h G I=>(b.block i h).trans (k.block i h G I)⟩
theorem YT{w}{wb gc gi ga gk cc ci ca ck}{c}{zL}{qU}{ar}{zD}{kn qK}{zA vX zG b8}{kI a7:Bool}
  (b5:kP w wb gc gi ga gk cc ci ca ck c zL qU ar zD kn zA vX kI) (s r:List Int) (R) (ok) (x) (pc:Nat) (b6:s[0]?=some (pc:Int)) (c8:s.length=44) (c7:r.length=44) (f3:pc<=300)
  (b9:Hid (R=if a7 then(s,false)else jG s x r ok))
  (c1:Hid (∀z,kP z wb gc gi ga gk cc ci ca ck c zL qU ar zD kn zA vX kI->CT 47 #[.pointer (some ⟨wb,0,none⟩),nS (s.set 0 ((pc)+1))] z λe w'=>e=.returned (.tuple #[nS r,.bool ok])/\Keep wb gk z w'/\kP w' wb gc gi ga gk cc ci ca ck c zL qU ar zD qK zG b8 a7)):
  Calls prog 76 #[.pointer (some ⟨wb,0,none⟩),nS s,ow x] w λe w'=>e=.returned (.tuple #[nS R.1,.bool R.2])/\Keep wb gk w w'/\kP w' wb gc gi ga gk cc ci ca ck c zL qU ar zD qK zG b8 a7:=by
 have j:=hid c8;have O:=hid c7;have c0:=hid b5;have b1:=b5.lt;have g2:=b1.1;have g1:=b1.2.2.2.2;have d5:=hid b1;clear c8 b5 c7 b1;unfold nS ow;have hz:=bY
 go_in
 go_wp2_with (first|(refine zW (by rfl) (.tmp 4) (by rfl) w.heap.size (by rfl) (by exact qw _ _ _ _) (by simp[j.o]) ?_)|(refine zM (by rfl) (.tmp 8) (.tmp 11) (by rfl) (w.heap.size+1+1+1) _ (by rfl) (by rfl) (by exact zEO _ _ _ _ _) (by rfl) (by simp[j.o]) (yA _) ?_;intro Y h I W G;have e4:Y.cell? ⟨w.heap.size+1+1+1,0,none⟩=some (.int .i64 (pc:Int)):=(fq h 0 _ b6);have e8:=(og h 0);have a2:Hid (Y.heap[w.heap.size+1+1+1]?=some (.cells (s.map (Value.int .i64)).toArray 93 (0,0))):=(h);have d2:Y.heap.size=w.heap.size+1+1+1+1:=(by simpa using W);have b4:Hid (Y.heap[w.heap.size]?=some (.cells (s.map (Value.int .i64)).toArray 93 (0,0))/\Y.heap[w.heap.size+1+1]?=some DY):=(⟨(I _ (by omega)).trans (zDy _ _ _ _ _),(I _ (by omega)).trans (zDA _ _ _ _ _)⟩);have c3:Hid (Y.heap[w.heap.size+1]?=some (.cells #[.int .i64 x.op,.int .i64 x.x,.int .i64 x.y,.string ⟨x.set.toArray⟩] 112 (0,0))):=((I _ (by omega)).trans (zDz _ _ _ _ _));have c5:Below w.heap.size w Y:=((zEP _ _ _ _ _).trans (G _ (by omega)));clear h I W G)|(refine zW (by rfl) (.tmp 8) (by rfl) (w.heap.size+1+1+1) (by rfl) (by exact bM a2.o 0 _) (by simp[j.o]) ?_) | fail)
 generalize b2:Y.setCell ⟨w.heap.size+1+1+1,0,none⟩ (.int .i64 ((pc:Int)+1))=a4 at *;have b7:Below w.heap.size w a4:=by rw[<-b2];exact c5.setCell (p:=⟨w.heap.size+1+1+1,0,none⟩) (by show w.heap.size<=w.heap.size+1+1+1;omega) _
 have b3:∀k,k≠w.heap.size+1+1+1->a4.heap[k]?=Y.heap[k]?:=λk e5=>by rw[<-b2];exact lS _ _ _ _ e5
 have s3:a4.heap.size=w.heap.size+1+1+1+1:=by rw[<-b2];simpa[World.setCell]using d2
 have c9:a4.heap[w.heap.size]?=some (.cells (s.map (Value.int .i64)).toArray 93 (0,0)):=(b3 _ (by omega)).trans b4.o.1;have d1:a4.heap[w.heap.size+1+1]?=some DY:=(b3 _ (by omega)).trans b4.o.2;have d0:a4.heap[w.heap.size+1]?=some (.cells #[.int .i64 x.op,.int .i64 x.x,.int .i64 x.y,.string ⟨x.set.toArray⟩] 112 (0,0)):=(b3 _ (by omega)).trans c3.o;clear b2 b3 a2 b4 c3 e4 e8 c5 d2 Y;rw[yG];refine(c1.o a4 (c0.o.below b7)).mono ?_;rintro e J ⟨rfl,a5,c6⟩;have s4:w.heap.size+1+1+1+1<=J.heap.size:=by rw[<-s3];exact a5.size
 have d8:Hid (J.heap[w.heap.size]?=some (.cells (s.map (Value.int .i64)).toArray 93 (0,0))):=(a5.blk _ (by omega) (by omega) (by omega)).trans c9;have d9:Hid (J.heap[w.heap.size+1+1]?=some DY):=(a5.blk _ (by omega) (by omega) (by omega)).trans d1;have c2:Hid (J.heap[w.heap.size+1]?=some (.cells #[.int .i64 x.op,.int .i64 x.x,.int .i64 x.y,.string ⟨x.set.toArray⟩] 112 (0,0))):=(a5.blk _ (by omega) (by omega) (by omega)).trans d0;have d7:=hid ((Keep.below b7).trans a5);have c4:=hid c6;clear c1 c0 b7 s3 c9 d0 d1 a5 c6;go_upto_region 4 with (first|(refine zM (by rfl) (.tmp 9) (.tmp 20) (by rfl) J.heap.size (r.map (Value.int .i64)).toArray (by rfl) (by rfl) (by exact gF _ _) (by rfl) (by simp[O.o]) (yA _) ?_;intro a0 h I W G) | fail)
 have Z:Below J.heap.size J a0:=((lK _ _).alloc (lF _) _).trans (G _ (lF _));have f0:a0.cell? ⟨wb,8,none⟩=some (.bool a7):=(zB (c4.o.below Z).cell).1 8;have g3:=(zB ((Z.block _ (by omega)).trans c2.o)).1;have a8:=hid ((Z.block _ (by omega)).trans d8.o);have b0:=hid ((Z.block _ (by omega)).trans d9.o);have a2:=hid h;have s5:a0.heap.size=J.heap.size+1:=by simpa using W
 have f5:wb<a0.heap.size:=by omega
 have f6:w.heap.size+1<a0.heap.size:=by omega
 have f7:J.heap.size<a0.heap.size:=by omega
 have f8:w.heap.size<a0.heap.size:=by omega
 have a9:Hid (∀a1,Below w.heap.size a0 a1->Keep wb gk w a1/\kP a1 wb gc gi ga gk cc ci ca ck c zL qU ar zD qK zG b8 a7):=λa1 b=>by
  have f4:=d5.o;exact⟨(d7.o.trans (Keep.below Z)).low b,(c4.o.below Z).mem (b.block _ (by omega)) (b.block _ (by omega)) (b.block _ (by omega)) (b.block _ (by omega)) (b.block _ (by omega))⟩
 have e6:r[0]?=some (gt r 0):=by unfold gt;rw[lH,lN (by rw[O.o];omega)];rfl
 have f2:=fq a2.o 0 _ e6;have g7:=og a2.o 0;have e9:=fq a8.o 0 _ b6;have g5:=og a8.o 0;have d6:=hid ((Z.block _ (by omega)).trans c2.o);clear h I W G Z;cases a7
 ·have U:=b9.o;rw[lC (by simp)]at U;unfold jG at U;by_cases a3:x.x=0
  ·rw[lG a3]at U;subst U;have e2:(x.x==0)=true:=by simpa using a3
   clear a3;go_wp2_with (first|(refine zW (by rfl) (.tmp 9) (by rfl) J.heap.size (by rfl) (by exact bM a2.o 0 _) (by simp[O.o]) ?_)|(refine zM (by rfl) (.tmp 6) (.tmp 34) (by rfl) (w.heap.size+1+1) _ (by rfl) (by rfl) (by exact(lS _ _ _ _ (by show w.heap.size+1+1≠J.heap.size;omega)).trans b0.o) (by rfl) (by simp[O.o]) (by simp only[yG];exact yA _) ?_;intro a1 h I W G) | fail)
   refine lT (dN rfl (by rfl) h (by simp[j.o,O.o])) rfl ⟨?_,a9.o _ (((lK _ _).setCell (p:=⟨J.heap.size,0,none⟩) (by show w.heap.size<=J.heap.size;omega) _).trans (G _ (by omega)))⟩;simp only[yG];rfl
  rw[lC a3]at U;have e2:(x.x==0)=false:=by simpa using a3
  by_cases a6:x.x=1
  ·rw[lG a6]at U;subst U;have e3:(x.x==1)=true:=by simpa using a6
   clear a3 a6;go_wp2_with (first|(refine Mf (by rfl) (.tmp 38) (by rfl) J.heap.size (by rfl) r O.o a2.o ?_)|(refine JZ (by rfl) (.tmp 40) (.tmp 39) (by rfl) w.heap.size s r j.o O.o (by rfl) (by rfl) (by exact a8.o) ?_;intro d3 h I W G;have e0:=(hid h);have e1:=(hid ((I _ (by omega)).trans b0.o));have g4:=(zB ((I _ (by omega)).trans d6.o)).1;have e7:(zl s r)[0]?=some (pc:Int):=(by have:=bC s r j.o O.o 0;rw[lC (by omega)]at this;unfold gt at this;rw[lH,lH,b6]at this;rw[lN (by rw[pF s r j.o O.o];omega)]at this |-;simpa using this);have f1:=(fq h 0 _ e7);have g6:=(og h 0);have f9:w.heap.size<d3.heap.size:=(by omega);have g0:w.heap.size+1<d3.heap.size:=(by omega);have d4:=(hid (G _ (lF _)));clear h I W G)|(refine zW (by rfl) (.tmp 4) (by rfl) w.heap.size (by rfl) (by exact bM e0.o 0 _) (by simp[pF s r j.o O.o]) ?_)|(refine zM (by rfl) (.tmp 6) (.tmp 44) (by rfl) (w.heap.size+1+1) _ (by rfl) (by rfl) (by exact(lS _ _ _ _ (by show w.heap.size+1+1≠w.heap.size;omega)).trans e1.o) (by rfl) (by simp[pF s r j.o O.o]) (by simp only[yG];exact yA _) ?_;intro a1 h I W G) | fail)
   refine lT (dN rfl (by rfl) h (by simp[pF s r j.o O.o])) rfl ⟨?_,a9.o _ ((d4.o.setCell (p:=⟨w.heap.size,0,none⟩) (lF _) _).trans (G _ (by omega)))⟩;simp only[yG];rfl
  rw[lC a6]at U;subst U;have e3:(x.x==1)=false:=by simpa using a6
  clear a3 a6;go_wp2_with (first|(refine zW (by rfl) (.tmp 4) (by rfl) w.heap.size (by rfl) (by exact bM a8.o 0 _) (by simp[j.o]) ?_)|(refine zM (by rfl) (.tmp 6) (.tmp 49) (by rfl) (w.heap.size+1+1) _ (by rfl) (by rfl) (by exact(lS _ _ _ _ (by show w.heap.size+1+1≠w.heap.size;omega)).trans b0.o) (by rfl) (by simp[j.o]) (by simp only[yG];exact yA _) ?_;intro a1 h I W G) | fail)
  refine lT (dN rfl (by rfl) h (by simp[j.o])) rfl ⟨?_,a9.o _ (((lK _ _).setCell (p:=⟨w.heap.size,0,none⟩) (lF w.heap.size) _).trans (G _ (by omega)))⟩;simp only[yG];rfl
 ·have U:=b9.o;rw[lG rfl]at U;subst U;go_wp2_with (first|(refine zW (by rfl) (.tmp 4) (by rfl) w.heap.size (by rfl) (by exact a8.o) (by simp[j.o]) ?_)|(refine zM (by rfl) (.tmp 6) (.tmp 26) (by rfl) (w.heap.size+1+1) _ (by rfl) (by rfl) (by exact b0.o) (by rfl) (by simp[j.o]) (yA _) ?_;intro a1 h I W G) | fail)
  exact lT (dN rfl (by rfl) h (by simp[j.o])) rfl ⟨rfl,a9.o _ (G _ (by omega))⟩
structure JD (c:List zT) (zL:BA) (ar:List Int):Prop where
 l:c.length<=300
 t:zL.size<=60
 ok:Mt.codeOk c
 ar0:∀p,p<c.length->0<=ar.getD p 0/\ar.getD p 0<=300
 ar1:∀p,p+1=c.length->ar.getD p 0<=11
theorem Cz{s:List Int}(h:s.length=44) i(j:i<44):s[i]?=some (gt s i):=by
 unfold gt;rw[lH,lN (by omega)];rfl
theorem Kv{L T}{s:List Int}(h:Mt.Good L T s):s[0]?=some ((zX s):Int)/\s[1]?=some ((vE s):Int)/\((zX s):Int)=gt s 0/\((vE s):Int)=gt s 1/\zX s<L/\vE s<=T:=by
 have I:=h.Ai;have J:=h.pc1;have O:=h.Ht;have U:=h.pos1;have j:((zX s:Nat):Int)=gt s 0:=by unfold zX;omega
 have G:((vE s:Nat):Int)=gt s 1:=by unfold vE;omega
 exact⟨by rw[j];exact Cz h.len 0 (by omega),by rw[G];exact Cz h.len 1 (by omega),j,G,by omega,by omega⟩
section
variable {w:World} {wb gc gi ga gk cc ci ca ck:Nat} {c:List zT} {zL:BA} {qU:List Bool} {ar:List Int} {zD:Int} {kn:List Bool} {zA vX:Int} {kI:Bool}
theorem zBS(I:kP w wb gc gi ga gk cc ci ca ck c zL qU ar zD kn zA vX kI)(h:JD c zL ar)(s:List Int)(Z:Mt.Good c.length zL.size s)(a1:kn.length=c.length*(zL.size+1)*12)(Y:0<=zA/\zA<=5000):
  CT 75 #[.pointer (some ⟨wb,0,none⟩),nS s] w λe w'=>e=.returned (.bool (Env.dead ⟨c,zL,qU,ar⟩ s kn))/\Keep wb gk w w'/\kP w' wb gc gi ga gk cc ci ca ck c zL qU ar zD (Env.qK ⟨c,zL,qU,ar⟩ s kn zA) (Env.zG ⟨c,zL,qU,ar⟩ s kn zA) vX kI:=by
 obtain⟨W,a0,a3,a4,U,a2⟩:=Kv Z;have a5:=h.ar0 _ U;cases G:qU.getD (zX s) false with
 | false =>
  refine(zBG I s _ W U h.l G).mono ?_;rintro e w' ⟨rfl,O,J⟩;have j:Env.isIn ⟨c,zL,qU,ar⟩ s=false:=G;refine⟨?_,O,?_⟩
  ·unfold Env.dead;rw[j];rfl
  ·unfold Env.qK Env.zG;rw[j];exact I.below J
 | true =>
  refine(zDv I s _ _ (ar.getD (zX s) 0).toNat W a0 Z.len U a2 h.l h.t G (by omega) (by omega) (λe=>by have:=h.ar1 _ e;omega) a1 Y.1 Y.2).mono ?_;rintro e w' ⟨rfl,O,J⟩;have j:Env.isIn ⟨c,zL,qU,ar⟩ s=true:=G;refine⟨?_,O,?_⟩
  ·unfold Env.dead;rw[j];rfl
  ·unfold Env.qK Env.zG;rw[j];exact J
theorem zDB(W:kP w wb gc gi ga gk cc ci ca ck c zL qU ar zD kn zA vX kI)(c6:JD c zL ar)(s:List Int)(h:Mt.Good c.length zL.size s)(x)(d2:Rq c (zX s) x):
  CT 77 #[.pointer (some ⟨wb,0,none⟩),nS s,ow x] w λe w'=>e=.returned (.tuple #[nS (kW zL s x).1,.bool (kW zL s x).2])/\Below w.heap.size w w':=by
 obtain⟨j,G,a5,a6,e2,J⟩:=Kv h;obtain⟨e0,e1,d3,d4,c0,d8,d9,d5⟩:=d2;have d6:=c6.l;have I:=c6.t;by_cases U:x.op=1
 ·have O:(x.op==1)=true:=by simpa using U
  unfold kW;rw[lG U];dsimp only;rw[<-a5,<-a6];by_cases b8:vE s<zL.size
  ·have d0:Rf zL ((vE s:Nat):Int).toNat=((zL[vE s]'b8).toNat:Int):=by unfold Rf;rw[dif_pos (by omega)];rfl
   rw[lG (by omega),d0];exact one_byte W s x _ _ j G h.len (by omega) J I O b8 d5
  ·rw[lC (by omega)];exact zBQ W s x _ _ j G h.len (by omega) J I O b8
 have O:(x.op==1)=false:=by simpa using U
 by_cases Y:x.op=3
 ·have a0:(x.op==3)=true:=by simpa using Y
  unfold kW;rw[lC U,lG Y];exact zBK W s x _ _ j G h.len O a0
 have a0:(x.op==3)=false:=by simpa using Y
 by_cases Z:x.op=4
 ·have a2:(x.op==4)=true:=by simpa using Z
  unfold kW;rw[lC U,lC Y,lG Z];dsimp only;rw[<-a5,<-a6];have:=d3 Z;exact zBN W s x _ _ j G h.len (by omega) J I O a0 a2 this.1 this.2
 have a2:(x.op==4)=false:=by simpa using Z
 by_cases a1:x.op=5
 ·have a4:(x.op==5)=true:=by simpa using a1
  unfold kW;rw[lC U,lC Y,lC Z,lG a1];dsimp only;rw[<-a6];have:=d4 a1;exact YN W s x _ _ j G h.len (by omega) J I O a0 a2 a4 this.2.2.1 this.2.2.2
 have a4:(x.op==5)=false:=by simpa using a1
 by_cases a3:x.op=6
 ·have a8:(x.op==6)=true:=by simpa using a3
  unfold kW;rw[lC U,lC Y,lC Z,lC a1,lG a3];dsimp only;rw[<-a5,<-a6];have:=c0 (.inl a3);exact zBO W s x _ _ j G h.len (by omega) J I O a0 a2 a4 a8 this.1 this.2
 have a8:(x.op==6)=false:=by simpa using a3
 by_cases a7:x.op=7
 ·have b0:(x.op==7)=true:=by simpa using a7
  unfold kW;rw[lC U,lC Y,lC Z,lC a1,lC a3,lG a7];dsimp only;rw[<-a5,<-a6];have:=c0 (.inr (.inl a7));exact YO W s x _ _ j G h.len (by omega) J I O a0 a2 a4 a8 b0 this.1 this.2
 have b0:(x.op==7)=false:=by simpa using a7
 by_cases a9:x.op=8
 ·have b2:(x.op==8)=true:=by simpa using a9
  have b1:=c0 (.inr (.inr a9))
  have c8:kW zL s x=bV zL s x.x:=by
   unfold kW;rw[lC U,lC Y,lC Z,lC a1,lC a3,lC a7,lG a9]
  have d1:(bV zL s x.x).1.length=44:=by rw[<-c8,KW];exact h.len
  rw[c8];refine zBR W s _ _ x _ _ j G h.len d1 (by omega) J I ?_ O a0 a2 a4 a8 b0 b2;intro z hz;have b9:=h.place x.x.toNat (by omega);rw[show 2*x.x.toNat=(2*x.x).toNat by omega]at b9;rw[show(2*x.x).toNat+1=(2*x.x+1).toNat by omega]at b9;have ga:=Cz h.len (2+(2*x.x).toNat) (by omega);have c4:=Cz h.len (2+(2*x.x+1).toNat) (by omega);unfold bV;by_cases b5:gt s (2+(2*x.x).toNat)<0
  ·rw[lG b5];exact YP hz s x.x _ _ j G h.len (by omega) J I b1.1 b1.2 _ _ ga c4 (by simpa using b5)
  ·rw[lC b5];have d7:=b9.resolve_left b5;have c1:(((gt s (2+(2*x.x).toNat)).toNat:Nat):Int)=gt s (2+(2*x.x).toNat):=by omega
   have c2:(((gt s (2+(2*x.x+1).toNat)).toNat:Nat):Int)=gt s (2+(2*x.x+1).toNat):=by omega
   have c3:s[2+(2*x.x).toNat]?=some (((gt s (2+(2*x.x).toNat)).toNat:Nat):Int):=by rw[c1];exact ga
   have c5:s[2+(2*x.x+1).toNat]?=some (((gt s (2+(2*x.x+1).toNat)).toNat:Nat):Int):=by rw[c2];exact c4
   by_cases c7:(zL.size:Int)<gt s 1+(gt s (2+(2*x.x+1).toNat)-gt s (2+(2*x.x).toNat))
   ·rw[lG c7];exact YQ hz s x.x _ _ j G h.len (by omega) J I b1.1 b1.2 _ _ c3 c5 (by omega) (by omega) (by omega)
   ·rw[lC c7];have:=YR hz s x.x _ _ j G h.len (by omega) J I b1.1 b1.2 _ _ c3 c5 (by omega) (by omega) (by omega);rw[c1,c2,a5,a6]at this;have c9:(gt s 1).toNat=vE s:=rfl;dsimp only;rw[c9];exact this
 have b2:(x.op==8)=false:=by simpa using a9
 by_cases b3:x.op=9
 ·have b4:(x.op==9)=true:=by simpa using b3
  unfold kW;rw[lC U,lC Y,lC Z,lC a1,lC a3,lC a7,lC a9,lG b3];dsimp only;rw[<-a5,<-a6];exact zBL W s x _ _ j G h.len (by omega) J I O a0 a2 a4 a8 b0 b2 b4
 have b4:(x.op==9)=false:=by simpa using b3
 by_cases b6:x.op=10
 ·have b7:(x.op==10)=true:=by simpa using b6
  unfold kW;rw[lC U,lC Y,lC Z,lC a1,lC a3,lC a7,lC a9,lC b3,lG b6];dsimp only;rw[<-a5,<-a6];exact zBP W s x _ _ j G h.len (by omega) J I O a0 a2 a4 a8 b0 b2 b4 b7
 have b7:(x.op==10)=false:=by simpa using b6
 unfold kW;rw[lC U,lC Y,lC Z,lC a1,lC a3,lC a7,lC a9,lC b3,lC b6];dsimp only;rw[<-a5];exact zBM W s x _ _ j G h.len (by omega) J I O a0 a2 a4 a8 b0 b2 b4 b7
theorem YU{qK}{zG I}{h}(O:kP w wb gc gi ga gk cc ci ca ck c zL qU ar zD kn zA vX kI)(Z:JD c zL ar)(s r s':List Int)(ok b')(x)(G:Mt.Good c.length zL.size s)(a0:r.length=44)
  (W:h=true->s'=s/\b'=false) (Y:h=false->(s',b')=jG s x r ok)
  (j:∀z,kP z wb gc gi ga gk cc ci ca ck c zL qU ar zD kn zA vX kI->CT 47 #[.pointer (some ⟨wb,0,none⟩),nS (s.set 0 (gt s 0+1))] z λe w'=>e=.returned (.tuple #[nS r,.bool ok])/\Keep wb gk z w'/\kP w' wb gc gi ga gk cc ci ca ck c zL qU ar zD qK zG I h):
  CT 76 #[.pointer (some ⟨wb,0,none⟩),nS s,ow x] w λe w'=>e=.returned (.tuple #[nS s',.bool b'])/\Keep wb gk w w'/\kP w' wb gc gi ga gk cc ci ca ck c zL qU ar zD qK zG I h:=by
 obtain⟨U,_,J,a1,a3,a4⟩:=Kv G;have a2:=Z.l;rw[<-J]at j;refine YT O s r (s',b') ok x _ U G.len a0 (by omega) (?_:(s',b')=_) j;cases h
 ·exact Y rfl
 ·obtain⟨rfl,rfl⟩:=W rfl;rfl
end
def leftOf(wb:Nat)(zD:Int)(w:World):Nat:=match w.cell? ⟨wb,7,none⟩with
 | some (.int _ u)=>(zD-u).toNat
 | _=>0
section
variable {w:World} {wb gc gi ga gk cc ci ca ck:Nat} {c:List zT} {zL:BA} {qU:List Bool} {ar:List Int} {zD:Int} {kn:List Bool} {zA vX:Int} {kI:Bool}
theorem yx(h:kP w wb gc gi ga gk cc ci ca ck c zL qU ar zD kn zA vX kI):leftOf wb zD w=(zD-vX).toNat:=by
 unfold leftOf;rw[(zB h.cell).1 7];rfl
theorem kP.drewN(h:kP w wb gc gi ga gk cc ci ca ck c zL qU ar zD kn zA vX kI) n:kP (w.drewN n) wb gc gi ga gk cc ci ca ck c zL qU ar zD kn zA vX kI:=
 h.mem rfl rfl rfl rfl rfl
theorem kP.zFp(G:kP w wb gc gi ga gk cc ci ca ck c zL qU ar zD kn zA vX kI) pc(h:pc<c.length):
  w.cell? ⟨gc,pc*4,none⟩=some (.int .i64 (c.getD pc kC).op)/\w.cell? ⟨gc,pc*4+1,none⟩=some (.int .i64 (c.getD pc kC).x)/\w.cell? ⟨gc,pc*4+2,none⟩=some (.int .i64 (c.getD pc kC).y)/\w.cell? ⟨gc,pc*4+3,none⟩=some (.string ⟨(c.getD pc kC).set.toArray⟩)/\c.length<=cc:=by
 rcases aj G.code with ⟨e,_⟩ | ⟨_,g,cap,e,I,_,_,j⟩
 ·rw[e]at h;simp at h
 ·simp only[oD,oP,uO,wJ,iE]at e;obtain⟨rfl,rfl⟩:=e;exact⟨j pc 0 h (by omega),j pc 1 h (by omega),j pc 2 h (by omega),j pc 3 h (by omega),I⟩
end
def Qq(wb gc gi ga gk cc ci ca ck:Nat)(c:List zT)(zL:BA)(qU:List Bool)(ar:List Int)(zD:Int)(n:Nat):Prop:=
 ∀(w:World) (s:List Int) (kn:List Bool) (zA:Int),kP w wb gc gi ga gk cc ci ca ck c zL qU ar zD kn zA (zD-(n:Int)) false->Mt.Good c.length zL.size s->kn.length=c.length*(zL.size+1)*12->0<=zA/\zA<=5000->
  CT 47 #[.pointer (some ⟨wb,0,none⟩),nS s] w λe w' =>
   e=.returned (.tuple #[nS (zS ⟨c,zL,qU,ar⟩ n s kn zA).st,.bool (zS ⟨c,zL,qU,ar⟩ n s kn zA).ok])/\Keep wb gk w w'/\kP w' wb gc gi ga gk cc ci ca ck c zL qU ar zD (zS ⟨c,zL,qU,ar⟩ n s kn zA).kn (zS ⟨c,zL,qU,ar⟩ n s kn zA).zA (zD-((zS ⟨c,zL,qU,ar⟩ n s kn zA).n:Int)) (zS ⟨c,zL,qU,ar⟩ n s kn zA).kI
def zDC(w:World)(wb gc gi ga gk cc ci ca ck:Nat)(c:List zT)(zL:BA)(qU:List Bool)(ar:List Int)(zD:Int)(n:Nat)(R:Xp)(wr:World):Prop:=
 ∃(n1:Nat) (s1:List Int) (kn1:List Bool) (Br:Int),kP wr wb gc gi ga gk cc ci ca ck c zL qU ar zD kn1 Br (zD-(n1:Int)) false/\wr.heap[w.heap.size]?=some (.cells (s1.map (Value.int .i64)).toArray 93 (0,0))/\wr.heap[w.heap.size+1]?=some DY/\Keep wb gk w wr
  /\ Mt.Good c.length zL.size s1/\kn1.length=c.length*(zL.size+1)*12/\(0<=Br/\Br<=5000)/\n1<=n/\R=zS ⟨c,zL,qU,ar⟩ n1 s1 kn1 Br
theorem Keep.whole{wb gk a b d}{q:Nat}(h:Keep wb gk a b)(U:∀k,k≠q->d.heap[k]?=b.heap[k]?)(O:d.heap.size=b.heap.size)(j:Below a.heap.size b d):Keep wb gk a d:=
 ⟨j.os.trans h.os,j.tape.trans h.tape,j.output.trans h.output,by rw[O];exact h.size,λi G I J=>(j.block i G).trans (h.block i G I J)⟩
theorem SL wb gc gi ga gk cc ci ca ck c zL qU ar zD(l2:JD c zL ar)(r3:0<=zD)(r4:zD<=10000)(n:Nat)(r6:(n:Int)<=zD)(k4:∀m,m<n->Qq wb gc gi ga gk cc ci ca ck c zL qU ar zD m):Qq wb gc gi ga gk cc ci ca ck c zL qU ar zD n:=by
 intro w s kn zA i9 m5 g4 m3;have c8:=hid l2;have k1:=hid k4;have h6:=i9.lt;have b7:=hid h6;have t5:=h6.1;have t4:=h6.2.2.2.2;have b3:=hid i9;have h0:Hid (Mt.Good c.length zL.size s/\kn.length=c.length*(zL.size+1)*12/\(0<=zA/\zA<=5000)):=⟨m5,g4,m3⟩
 obtain⟨R,e5⟩:∃R,R=zS ⟨c,zL,qU,ar⟩ n s kn zA:=⟨_,rfl⟩
 rw[<-e5];have d9:=hid e5;clear i9 m5 g4 m3 h6 k4 l2 e5;unfold nS;have hz:=bY;go_enter func47,ntmps47
 go_wp2_with fail
 go_loopw [] (λwr=>zDC w wb gc gi ga gk cc ci ca ck c zL qU ar zD n R wr) (λwr=>leftOf wb zD wr)
 case atStart =>
  have l1:Below w.heap.size w ((w.alloc (.cells (s.map (Value.int .i64)).toArray 93 (0,0))).alloc DY):=((lK _ _).alloc (lF _) _).alloc (by simp) _;exact⟨n,s,kn,zA,b3.o.below l1,ny _ _ _,au _ _ _,Keep.below l1,h0.o.1,h0.o.2.1,h0.o.2.2,lF _,d9.o⟩
 case round =>
  clear d9 h0 b3;obtain⟨n8,s1,d5,d6,j3,g5,d4,l5,j1,g4,m4,r7,e5⟩:=hrel;have b3:=hid j3;have a8:Hid (wr.heap[w.heap.size]?=some (.cells (s1.map (Value.int .i64)).toArray 93 (0,0))/\wr.heap[w.heap.size+1]?=some DY):=⟨g5,d4⟩
  have d0:=hid l5;have b0:Hid (Mt.Good c.length zL.size s1/\d5.length=c.length*(zL.size+1)*12/\(0<=d6/\d6<=5000)):=⟨j1,g4,m4⟩
  have a0:=hid j1.len;have d9:=hid e5;have c4:=zB j3.cell;have h2:=c4.1 0;have o4:=c4.1 6;have k6:=c4.1 7;have o5:=c4.1 8;have q5:=c4.2 7;have q6:=c4.2 8;have p6:=(lM.1 d4).1;have j6:wb<wr.heap.size:=by omega
  clear c4 j3 g5 d4 l5 j1 g4 m4 e5;obtain⟨a6,j2⟩:∃a6:Int,a6=zD-(n8:Int):=⟨_,rfl⟩
  rw[<-j2]at b3 k6;have i7:=hid b3.o;have b1:=hid j2;clear j2;cases n8 with
  | zero =>
   have p2:zD<=a6:=by rw[b1.o];simp
   go_wp2_with fail
   go_quiet (fail)
   go_wp2_with (first|(refine zW (by rfl) (.tmp 3) (by rfl) w.heap.size (by rfl) (by exact(lS _ _ _ _ (by show w.heap.size≠wb;omega)).trans a8.o.1) (by simp[a0.o]) ?_)|(refine zM (by rfl) (.tmp 4) (.tmp 24) (by rfl) (w.heap.size+1) _ (by rfl) (by rfl) (by exact(lS _ _ _ _ (by show w.heap.size+1≠wb;omega)).trans a8.o.2) (by rfl) (by simp[a0.o]) (yA _) ?_;intro a7 j h G I) | fail)
   have W:=d9.o;rw[mF]at W;have h4:=(b3.o.drewN nq).zBJ true;have h3:Keep wb gk w ((wr.drewN nq).setCell ⟨wb,8,none⟩ (.bool true)):=Keep.set (p:=⟨wb,8,none⟩) (d0.o.trans (Keep.below (below_drewN (lK _ _) nq))) (gG rfl) _;generalize (wr.drewN nq).setCell ⟨wb,8,none⟩ (.bool true)=n9 at *;refine lT (dN rfl (by rfl) j (by simp[a0.o])) rfl ⟨?_,Keep.whole h3 h G (I _ (by omega)),?_⟩
   ·rw[W];rfl
   ·rw[W];have c7:=b7.o;have:=h4.mem (h _ (by omega)) (h _ (by omega)) (h _ (by omega)) (h _ (by omega)) (h _ (by omega));rw[b1.o]at this;exact this
  | succ k =>
   have p2:a6<zD:=by rw[b1.o];omega
   have r2:0<=a6:=by rw[b1.o];omega
   go_wp2_with fail
   go_quiet (fail)
   go_wp2_with (first|(refine zW (by rfl) (.tmp 3) (by rfl) w.heap.size (by rfl) (by exact(lS _ _ _ _ (by show w.heap.size≠wb;omega)).trans a8.o.1) (by simp[a0.o]) ?_) | fail)
   have h4:=(b3.o.drewN nq).zBI (a6+1);have h3:Keep wb gk w ((wr.drewN nq).setCell ⟨wb,7,none⟩ (.int .i64 (a6+1))):=Keep.set (p:=⟨wb,7,none⟩) (d0.o.trans (Keep.below (below_drewN (lK _ _) nq))) (gG rfl) _;have g5:((wr.drewN nq).setCell ⟨wb,7,none⟩ (.int .i64 (a6+1))).heap[w.heap.size]?=_:=(lS _ _ _ _ (by show w.heap.size≠wb;omega)).trans a8.o.1;have d4:((wr.drewN nq).setCell ⟨wb,7,none⟩ (.int .i64 (a6+1))).heap[w.heap.size+1]?=_:=(lS _ _ _ _ (by show w.heap.size+1≠wb;omega)).trans a8.o.2;generalize (wr.drewN nq).setCell ⟨wb,7,none⟩ (.int .i64 (a6+1))=n9 at *;clear b3 a8 d0 h2 o4 k6 o5 q5 q6 j6 p6;refine(zBS h4 c8.o s1 b0.o.1 b0.o.2.1 b0.o.2.2).mono ?_;rintro e a7 ⟨rfl,g2,h5⟩;have p4:=(lM.1 d4).1;have m6:w.heap.size+1<a7.heap.size:=by have:=g2.size;omega
   have a8:Hid (a7.heap[w.heap.size]?=some (.cells (s1.map (Value.int .i64)).toArray 93 (0,0))/\a7.heap[w.heap.size+1]?=some DY):=⟨(g2.blk _ (by omega) (by omega) (by omega)).trans g5,(g2.blk _ (by omega) (by omega) (by omega)).trans d4⟩
   have d0:=hid (h3.trans g2);have g9:Hid (R=_):=d9.o.trans (xA _ _ _ _ _);have l3:((Env.qK ⟨c,zL,qU,ar⟩ s1 d5 d6).length=c.length*(zL.size+1)*12/\(0<=Env.zG ⟨c,zL,qU,ar⟩ s1 d5 d6/\Env.zG ⟨c,zL,qU,ar⟩ s1 d5 d6<=5000)):=⟨(Env.Gc _ _ _ _).trans b0.o.2.1,Env.nX _ _ _ _ b0.o.2.2⟩
   generalize Env.qK ⟨c,zL,qU,ar⟩ s1 d5 d6=Y at *;generalize Env.zG ⟨c,zL,qU,ar⟩ s1 d5 d6=Z at *;have b3:=hid h5;have c2:=hid l3;obtain⟨f6,o8,k9,o7,n5,h9⟩:=Kv b0.o.1;have c4:=zB h5.cell;have h2:=c4.1 0;have e4:=h5.zFp (zX s1) n5;have n0:=e4.1;have n1:=e4.2.1;have n2:=e4.2.2.1;have n3:=e4.2.2.2.1;have p8:=e4.2.2.2.2;have k8:=fq a8.o.1 0 _ f6;have o2:=og a8.o.1 0;have r5:=c8.o.l;have q1:gc<a7.heap.size:=by have:=b7.o;omega
   have j6:wb<a7.heap.size:=by omega
   have q2:w.heap.size<a7.heap.size:=by omega
   have l4:=c8.o.ok _ n5;have h1:Hid (Env.ins ⟨c,zL,qU,ar⟩ s1=c.getD (zX s1) kC):=rfl;have g8:=hid l4;generalize l9:c.getD (zX s1) kC=X at *;have f4:=hid l9;have k3:=hid k9;generalize m2:zX s1=pc at *;have d7:=hid m2;clear k9 o7 o8 h9 m2;clear l9 c4 e4 l4 g2 h3 h4 h5 g5 d4 d9 n9 p4 l3;cases j0:Env.dead ⟨c,zL,qU,ar⟩ s1 d5 with
   | true =>
    have W:=g9.o;rw[j0,lG rfl]at W;clear k8 o2 n0 n1 n2 n3 h2 g9;go_wp2_with (first|(refine zW (by rfl) (.tmp 3) (by rfl) w.heap.size (by rfl) (by exact a8.o.1) (by simp[a0.o]) ?_)|(refine zM (by rfl) (.tmp 4) (.tmp 36) (by rfl) (w.heap.size+1) _ (by rfl) (by rfl) (by exact a8.o.2) (by rfl) (by simp[a0.o]) (yA _) ?_;intro v0 j h G I) | fail)
    refine lT (dN rfl (by rfl) j (by simp[a0.o])) rfl ⟨?_,Keep.whole d0.o h G (I _ (by omega)),?_⟩
    ·rw[W];rfl
    ·rw[W];have c7:=b7.o;have:=b3.o.mem (h _ (by omega)) (h _ (by omega)) (h _ (by omega)) (h _ (by omega)) (h _ (by omega));rw[show a6+1=zD-((k:Nat):Int) by rw[b1.o];omega]at this;exact this
   | false =>
    have g7:=hid j0;clear j0;go_wp2_with fail
    go_region
    have f7:Below a7.heap.size a7 (a7.alloc (.cells #[.int .i64 X.op,.int .i64 X.x,.int .i64 X.y,.string ⟨X.set.toArray⟩] 112 (0,0))).drew:=((lK _ _).alloc (lF _) _).drew;have e9:(a7.alloc (.cells #[.int .i64 X.op,.int .i64 X.x,.int .i64 X.y,.string ⟨X.set.toArray⟩] 112 (0,0))).drew.heap[a7.heap.size]?=some (.cells #[.int .i64 X.op,.int .i64 X.x,.int .i64 X.y,.string ⟨X.set.toArray⟩] 112 (0,0)):=gF _ _;have m7:(a7.alloc (.cells #[.int .i64 X.op,.int .i64 X.x,.int .i64 X.y,.string ⟨X.set.toArray⟩] 112 (0,0))).drew.heap.size=a7.heap.size+1:=by simp
    generalize p7:(a7.alloc (.cells #[.int .i64 X.op,.int .i64 X.x,.int .i64 X.y,.string ⟨X.set.toArray⟩] 112 (0,0))).drew=a4 at *;have c9:=hid (b3.o.below f7);have a9:Hid (a4.heap[w.heap.size]?=some (.cells (s1.map (Value.int .i64)).toArray 93 (0,0))/\a4.heap[w.heap.size+1]?=some DY):=⟨(f7.block _ (by omega)).trans a8.o.1,(f7.block _ (by omega)).trans a8.o.2⟩
    have d1:=hid (d0.o.trans (Keep.below f7));have f3:=hid e9;have j7:=(zB e9).1 0;have j8:=(zB e9).1 1;have j9:=(zB e9).1 2;have k0:=(zB e9).1 3;have t3:=m6;have t2:a7.heap.size<a4.heap.size:=by omega
    have q8:=hid m7;clear m7;generalize o9:a7.heap.size=Bx at *;clear p7 f7 e9 b3 a8 d0 k8 o2 n0 n1 n2 n3 p8 h2 q1 j6 q2 m6 o9;have e0:=hid g9.o;clear g9;by_cases c1:X.op=13\/X.op=12
    ·have W:=e0.o;rw[g7.o,lC (by simp),h1.o,lG c1]at W;have oo:((X.op==13)=true)\/((X.op==13)=false/\(X.op==12)=true):=by simp;omega
     rcases oo with o | ⟨o,o'⟩
     all_goals
      go_wp2_with (first|(refine zW (by rfl) (.tmp 3) (by rfl) w.heap.size (by rfl) (by exact a9.o.1) (by simp[a0.o]) ?_)|(refine zM (by rfl) (.tmp 4) (.tmp 57) (by rfl) (w.heap.size+1) _ (by rfl) (by rfl) (by exact a9.o.2) (by rfl) (by simp[a0.o]) (yA _) ?_;intro O j h G I) | fail)
      refine lT (dN rfl (by rfl) j (by simp[a0.o])) rfl ⟨?_,Keep.whole d1.o h G (I _ (by omega)),?_⟩
      ·rw[W];rfl
      ·rw[W];have c7:=b7.o;have:=c9.o.mem (h _ (by omega)) (h _ (by omega)) (h _ (by omega)) (h _ (by omega)) (h _ (by omega));rw[show a6+1=zD-((k:Nat):Int) by rw[b1.o];omega]at this;exact this
    ·have t8:(X.op==13)=false:=by simp;omega
     have t7:(X.op==12)=false:=by simp;omega
     by_cases g6:X.op=2
     ·have r1:(X.op==2)=true:=by simp;omega
      have W:=e0.o;rw[g7.o,lC (by simp),h1.o,lC c1,lG g6]at W;have g1:=g8.o.1 g6;have f8:=k1.o k (by omega);have d3:Mt.Good c.length zL.size (s1.set 0 X.x):=b0.o.1.dY _ g1.1 g1.2.1;have b6:=yK ⟨c,zL,qU,ar⟩ c8.o.ok k k (s1.set 0 X.x) Y Z (lF _) d3 c2.o.2;have p3:=xE ⟨c,zL,qU,ar⟩ k (s1.set 0 X.x) Y Z;have f9:∀z:World,kP z wb gc gi ga gk cc ci ca ck c zL qU ar zD Y Z (a6+1) false->CT 47 #[.pointer (some ⟨wb,0,none⟩),nS (s1.set 0 X.x)] z λe w'=>e=.returned (.tuple #[nS (zS ⟨c,zL,qU,ar⟩ k (s1.set 0 X.x) Y Z).st,.bool (zS ⟨c,zL,qU,ar⟩ k (s1.set 0 X.x) Y Z).ok])/\Keep wb gk z w'/\kP w' wb gc gi ga gk cc ci ca ck c zL qU ar zD (zS ⟨c,zL,qU,ar⟩ k (s1.set 0 X.x) Y Z).kn (zS ⟨c,zL,qU,ar⟩ k (s1.set 0 X.x) Y Z).zA (zD-((zS ⟨c,zL,qU,ar⟩ k (s1.set 0 X.x) Y Z).n:Int)) (zS ⟨c,zL,qU,ar⟩ k (s1.set 0 X.x) Y Z).kI:=λz hz=>f8 z (s1.set 0 X.x) Y Z (by rw[show zD-((k:Nat):Int)=a6+1 by rw[b1.o];omega];exact hz) d3 c2.o.1 c2.o.2
      generalize zS ⟨c,zL,qU,ar⟩ k (s1.set 0 X.x) Y Z=r at *;have k2:=hid f9;have c3:Hid (r.kn.length=c.length*(zL.size+1)*12/\(0<=r.zA/\r.zA<=5000)):=⟨b6.2.1.trans c2.o.1,b6.2.2.1⟩
      have c6:=hid b6.2.2.2.1;have c0:=hid W;have o3:Hid (Mt.Good c.length zL.size (s1.set 0 X.y)):=b0.o.1.dY _ g1.2.2.1 g1.2.2.2;clear W f9 f8 d3 b6 g1 e0;go_wp2_with (first|(refine zW (by rfl) (.tmp 3) (by rfl) w.heap.size (by rfl) (by exact a9.o.1) (by simp[a0.o]) ?_)|(refine zM (by rfl) (.tmp 9) (.tmp 60) (by rfl) a4.heap.size _ (by rfl) (by rfl) (by exact gF _ _) (by rfl) (by simp[a0.o]) (yA _) ?_;intro O j h G I;have i1:Hid (Below a4.heap.size a4 O):=(((lK _ _).alloc (lF _) _).trans (I _ (lF _)));have k5:Hid (O.heap[a4.heap.size]?=some (.cells (s1.map (Value.int .i64)).toArray 93 (0,0))):=(j);have o6:=(fq j 0 _ f6);have q7:=(og j 0);have q4:O.cell? ⟨Bx,1,none⟩=some (.int .i64 X.x):=((zB ((i1.o.block _ (by omega)).trans f3.o)).1 1);have s9:O.heap.size=a4.heap.size+1:=(by simpa using G);have p9:Bx<O.heap.size:=(by omega);have q0:a4.heap.size<O.heap.size:=(by omega);clear j h G I)|(refine zW (by rfl) (.tmp 9) (by rfl) a4.heap.size (by rfl) (by exact bM k5.o 0 _) (by simp[a0.o]) ?_) | fail)
      have d2:Below a4.heap.size a4 (O.setCell ⟨a4.heap.size,0,none⟩ (.int .i64 X.x)):=i1.o.setCell (p:=⟨a4.heap.size,0,none⟩) (lF _) _;generalize O.setCell ⟨a4.heap.size,0,none⟩ (.int .i64 X.x)=a1 at *;rw[yG];refine(k2.o a1 (c9.o.below d2)).mono ?_;rintro e a2 ⟨rfl,e7,m8⟩;have r9:=d2.size;have t1:=e7.size;have i4:=hid ((d1.o.trans (Keep.below d2)).trans e7);have d8:Hid (a2.heap[w.heap.size]?=some (.cells (s1.map (Value.int .i64)).toArray 93 (0,0))/\a2.heap[w.heap.size+1]?=some DY):=⟨((e7.blk _ (by omega) (by omega) (by omega)).trans (d2.block _ (by omega))).trans a9.o.1,((e7.blk _ (by omega) (by omega) (by omega)).trans (d2.block _ (by omega))).trans a9.o.2⟩
      have i8:Hid (a2.heap[Bx]?=some (.cells #[.int .i64 X.op,.int .i64 X.x,.int .i64 X.y,.string ⟨X.set.toArray⟩] 112 (0,0))):=((e7.blk _ (by omega) (by omega) (by omega)).trans (d2.block _ (by omega))).trans f3.o;have e1:=hid m8;clear e7 m8 d2 i1 k5 o6 q7 q4 s9 p9 q0 O k2 c9 a9 d1 f3 j7 j8 j9 k0;have p1:(r.ok=true)\/(r.ok=false/\r.kI=true)\/(r.ok=false/\r.kI=false):=by cases r.ok <;> cases r.kI <;> simp
      rcases p1 with ok | ⟨ok,i0⟩ | ⟨ok,i0⟩
      ·have b2:Hid (R=r):=by show _=_;rw[c0.o,ok];rfl
       clear c0;go_wp2_with (first|(refine zM (by rfl) (.tmp 10) (.tmp 68) (by rfl) a2.heap.size (r.st.map (Value.int .i64)).toArray (by rfl) (by rfl) (by exact gF _ _) (by rfl) (by simp[c6.o]) (yA _) ?_;intro J j h G I;have a3:Hid (Below a2.heap.size a2 J):=(((lK _ _).alloc (lF _) _).trans (I _ (lF _)));have b4:Hid (J.heap[a2.heap.size]?=some (.cells (r.st.map (Value.int .i64)).toArray 93 (0,0))):=(j);have b5:Hid (J.heap[w.heap.size]?=some (.cells (s1.map (Value.int .i64)).toArray 93 (0,0))/\J.heap[w.heap.size+1]?=some DY):=(⟨(a3.o.block _ (by omega)).trans d8.o.1,(a3.o.block _ (by omega)).trans d8.o.2⟩);have n4:J.cell? ⟨wb,8,none⟩=some (.bool r.kI):=((zB (e1.o.below a3.o).cell).1 8);have o0:J.cell? ⟨Bx,2,none⟩=some (.int .i64 X.y):=((zB ((a3.o.block _ (by omega)).trans i8.o)).1 2);have k7:=(fq b5.o.1 0 _ f6);have o1:=(og b5.o.1 0);have s12:J.heap.size=a2.heap.size+1:=(by simpa using G);have h9:wb<J.heap.size:=(by omega);have n6:Bx<J.heap.size:=(by omega);have n7:w.heap.size<J.heap.size:=(by omega);clear j h G I)|(refine zW (by rfl) (.tmp 10) (by rfl) a2.heap.size (by rfl) (by exact b4.o) (by simp[c6.o]) ?_)|(refine zM (by rfl) (.tmp 4) (.tmp 77) (by rfl) (w.heap.size+1) _ (by rfl) (by rfl) (by exact b5.o.2) (by rfl) (by simp[c6.o]) (yA _) ?_;intro q3 j h G I) | fail)
       refine lT (dN rfl (by rfl) j (by simp[c6.o])) rfl ⟨?_,Keep.whole (i4.o.trans (Keep.below a3.o)) h G (I _ (by omega)),?_⟩
       ·rw[b2.o,ok];rfl
       ·rw[b2.o];have c7:=b7.o;exact(e1.o.below a3.o).mem (h _ (by omega)) (h _ (by omega)) (h _ (by omega)) (h _ (by omega)) (h _ (by omega))
      ·have b2:Hid (R=r):=by show _=_;rw[c0.o,ok,i0];rfl
       clear c0;go_wp2_with (first|(refine zM (by rfl) (.tmp 10) (.tmp 68) (by rfl) a2.heap.size (r.st.map (Value.int .i64)).toArray (by rfl) (by rfl) (by exact gF _ _) (by rfl) (by simp[c6.o]) (yA _) ?_;intro J j h G I;have a3:Hid (Below a2.heap.size a2 J):=(((lK _ _).alloc (lF _) _).trans (I _ (lF _)));have b4:Hid (J.heap[a2.heap.size]?=some (.cells (r.st.map (Value.int .i64)).toArray 93 (0,0))):=(j);have b5:Hid (J.heap[w.heap.size]?=some (.cells (s1.map (Value.int .i64)).toArray 93 (0,0))/\J.heap[w.heap.size+1]?=some DY):=(⟨(a3.o.block _ (by omega)).trans d8.o.1,(a3.o.block _ (by omega)).trans d8.o.2⟩);have n4:J.cell? ⟨wb,8,none⟩=some (.bool r.kI):=((zB (e1.o.below a3.o).cell).1 8);have o0:J.cell? ⟨Bx,2,none⟩=some (.int .i64 X.y):=((zB ((a3.o.block _ (by omega)).trans i8.o)).1 2);have k7:=(fq b5.o.1 0 _ f6);have o1:=(og b5.o.1 0);have s12:J.heap.size=a2.heap.size+1:=(by simpa using G);have h9:wb<J.heap.size:=(by omega);have n6:Bx<J.heap.size:=(by omega);have n7:w.heap.size<J.heap.size:=(by omega);clear j h G I)|(refine zW (by rfl) (.tmp 10) (by rfl) a2.heap.size (by rfl) (by exact b4.o) (by simp[c6.o]) ?_)|(refine zM (by rfl) (.tmp 4) (.tmp 77) (by rfl) (w.heap.size+1) _ (by rfl) (by rfl) (by exact b5.o.2) (by rfl) (by simp[c6.o]) (yA _) ?_;intro q3 j h G I) | fail)
       refine lT (dN rfl (by rfl) j (by simp[c6.o])) rfl ⟨?_,Keep.whole (i4.o.trans (Keep.below a3.o)) h G (I _ (by omega)),?_⟩
       ·rw[b2.o,ok];rfl
       ·rw[b2.o];have c7:=b7.o;exact(e1.o.below a3.o).mem (h _ (by omega)) (h _ (by omega)) (h _ (by omega)) (h _ (by omega)) (h _ (by omega))
      ·have b2:Hid (R=zS ⟨c,zL,qU,ar⟩ r.n (s1.set 0 X.y) r.kn r.zA):=by show _=_;rw[c0.o,ok,i0];rfl
       have i5:=hid i0;clear c0;go_wp2_with (first|(refine zM (by rfl) (.tmp 10) (.tmp 68) (by rfl) a2.heap.size (r.st.map (Value.int .i64)).toArray (by rfl) (by rfl) (by exact gF _ _) (by rfl) (by simp[c6.o]) (yA _) ?_;intro J j h G I;have a3:Hid (Below a2.heap.size a2 J):=(((lK _ _).alloc (lF _) _).trans (I _ (lF _)));have b4:Hid (J.heap[a2.heap.size]?=some (.cells (r.st.map (Value.int .i64)).toArray 93 (0,0))):=(j);have b5:Hid (J.heap[w.heap.size]?=some (.cells (s1.map (Value.int .i64)).toArray 93 (0,0))/\J.heap[w.heap.size+1]?=some DY):=(⟨(a3.o.block _ (by omega)).trans d8.o.1,(a3.o.block _ (by omega)).trans d8.o.2⟩);have n4:J.cell? ⟨wb,8,none⟩=some (.bool r.kI):=((zB (e1.o.below a3.o).cell).1 8);have o0:J.cell? ⟨Bx,2,none⟩=some (.int .i64 X.y):=((zB ((a3.o.block _ (by omega)).trans i8.o)).1 2);have k7:=(fq b5.o.1 0 _ f6);have o1:=(og b5.o.1 0);have s12:J.heap.size=a2.heap.size+1:=(by simpa using G);have h9:wb<J.heap.size:=(by omega);have n6:Bx<J.heap.size:=(by omega);have n7:w.heap.size<J.heap.size:=(by omega);clear j h G I) | fail)
       have c7:=b7.o;have c1:∀k,k≠w.heap.size->(J.setCell ⟨w.heap.size,0,none⟩ (.int .i64 X.y)).heap[k]?=J.heap[k]?:=λk j5=>lS _ _ _ _ j5
       have p0:=e1.o.below a3.o
       have l8:kP (J.setCell ⟨w.heap.size,0,none⟩ (.int .i64 X.y)) wb gc gi ga gk cc ci ca ck c zL qU ar zD r.kn r.zA (zD-(r.n:Int)) false:=by
        have:=p0.mem (c1 _ (by omega)) (c1 _ (by omega)) (c1 _ (by omega)) (c1 _ (by omega)) (c1 _ (by omega));rw[i5.o]at this;exact this
       go_roundw
       case rel=>exact⟨r.n,s1.set 0 X.y,r.kn,r.zA,l8,bM b5.o.1 0 _,(c1 _ (by omega)).trans b5.o.2,Keep.set (p:=⟨w.heap.size,0,none⟩) (i4.o.trans (Keep.below a3.o)) (lZ (lZ (lF _))) _,o3.o,c3.o.1,c3.o.2,by omega,b2.o⟩
       case measure=>rw[yx l8,yx i7.o];have:=b1.o;omega
     ·have t9:(X.op==2)=false:=by simp;omega
      by_cases f0:X.op=11
      ·have r0:(X.op==11)=true:=by simp;omega
       have W:=e0.o;rw[g7.o,lC (by simp),h1.o,lC c1,lC g6,lG f0]at W;have r8:=g8.o.2.2.2.2.2.2.1 (by omega);have j4:=g8.o.2.2.2.2.2.1 f0;have f8:=k1.o k (by omega);have d3:Mt.Good c.length zL.size (s1.set 0 (gt s1 0+1)):=b0.o.1.dY _ (by have:=k3.o;omega) (by have:=k3.o;omega);have b6:=yK ⟨c,zL,qU,ar⟩ c8.o.ok k k (s1.set 0 (gt s1 0+1)) Y Z (lF _) d3 c2.o.2;have p3:=xE ⟨c,zL,qU,ar⟩ k (s1.set 0 (gt s1 0+1)) Y Z;have f9:∀z:World,kP z wb gc gi ga gk cc ci ca ck c zL qU ar zD Y Z (a6+1) false->CT 47 #[.pointer (some ⟨wb,0,none⟩),nS (s1.set 0 (gt s1 0+1))] z λe w'=>e=.returned (.tuple #[nS (zS ⟨c,zL,qU,ar⟩ k (s1.set 0 (gt s1 0+1)) Y Z).st,.bool (zS ⟨c,zL,qU,ar⟩ k (s1.set 0 (gt s1 0+1)) Y Z).ok])/\Keep wb gk z w'/\kP w' wb gc gi ga gk cc ci ca ck c zL qU ar zD (zS ⟨c,zL,qU,ar⟩ k (s1.set 0 (gt s1 0+1)) Y Z).kn (zS ⟨c,zL,qU,ar⟩ k (s1.set 0 (gt s1 0+1)) Y Z).zA (zD-((zS ⟨c,zL,qU,ar⟩ k (s1.set 0 (gt s1 0+1)) Y Z).n:Int)) (zS ⟨c,zL,qU,ar⟩ k (s1.set 0 (gt s1 0+1)) Y Z).kI:=λz hz=>f8 z (s1.set 0 (gt s1 0+1)) Y Z (by rw[show zD-((k:Nat):Int)=a6+1 by rw[b1.o];omega];exact hz) d3 c2.o.1 c2.o.2
       generalize zS ⟨c,zL,qU,ar⟩ k (s1.set 0 (gt s1 0+1)) Y Z=r at *;obtain⟨A,e3⟩:∃A:List Int × Bool,A=if r.kI then(s1,false)else jG s1 X r.st r.ok:=⟨_,rfl⟩
       have l0:A.1.length=44:=by
        rw[e3];split
        ·exact a0.o
        ·unfold jG;split
         ·simp[b6.2.2.2.1]
         split
         ·simp[pF s1 r.st a0.o b6.2.2.2.1]
         ·simp[a0.o]
       have f5:Hid (CT 76 #[.pointer (some ⟨wb,0,none⟩),nS s1,ow X] a4 λe w'=>e=.returned (.tuple #[nS A.1,.bool A.2])/\Keep wb gk a4 w'/\kP w' wb gc gi ga gk cc ci ca ck c zL qU ar zD r.kn r.zA (zD-(r.n:Int)) r.kI):=
        YU c9.o c8.o s1 r.st A.1 r.ok A.2 X b0.o.1 b6.2.2.2.1 (λe=>by rw[e3,e];exact⟨rfl,rfl⟩) (λe=>by rw[e3,e];rfl) f9
       have l6:A.2=false->R=⟨A.1,false,r.n,r.kn,r.zA,r.kI⟩:=λe=>by
        rw[W];rw[e3]at e |-;cases h7:r.kI with
        | true=>rfl
        | false =>
         rw[h7]at e;simp only[sH,wX]at e |-;rw[e];rfl
       have l7:A.2=true->R=zS ⟨c,zL,qU,ar⟩ r.n A.1 r.kn r.zA/\r.kI=false/\Mt.Good c.length zL.size A.1:=λe=>by
        rw[e3]at e |-;cases h7:r.kI with
        | true=>rw[h7]at e;simp at e
        | false =>
         rw[h7]at e W;simp only[sH,wX]at e W |-;rw[e]at W;exact⟨W,trivial,jc b0.o.1 b6.1 X j4.1 j4.2.1 e⟩
       have b8:=hid l0;have b9:=hid l6;have i6:=hid l7;have c3:Hid (r.kn.length=c.length*(zL.size+1)*12/\(0<=r.zA/\r.zA<=5000)):=⟨b6.2.1.trans c2.o.1,b6.2.2.1⟩
       have q9:=hid f0;clear W l0 e3 f9 f8 d3 b6 l6 l7 j4 e0 f0;go_wp2_with (first|(refine zW (by rfl) (.tmp 3) (by rfl) w.heap.size (by rfl) (by exact a9.o.1) (by simp[a0.o]) ?_) | fail)
       refine f5.o.mono ?_;rintro e O ⟨rfl,g3,m9⟩;have f2:=hid m9;have c5:Hid (O.heap[w.heap.size]?=some (.cells (s1.map (Value.int .i64)).toArray 93 (0,0))/\O.heap[w.heap.size+1]?=some DY):=⟨(g3.blk _ (by omega) (by omega) (by omega)).trans a9.o.1,(g3.blk _ (by omega) (by omega) (by omega)).trans a9.o.2⟩
       have f1:=hid (d1.o.trans g3);have p5:=g3.size;clear f5 c9 a9 d1 f3 j7 j8 j9 k0 g3 m9;cases e8:A.2 with
       | false =>
        have b2:=hid (b9.o e8);clear b9 i6;go_wp2_with (first|(refine zM (by rfl) (.tmp 3) (.tmp 89) (by rfl) w.heap.size (A.1.map (Value.int .i64)).toArray (by rfl) (by rfl) (by exact c5.o.1) (by simp[a0.o]) (by simp[b8.o]) (yA _) ?_;intro a1 j h G I;have b4:Hid (a1.heap[w.heap.size]?=some (.cells (A.1.map (Value.int .i64)).toArray 93 (0,0))):=(j);have a5:Hid ((∀k,k≠w.heap.size->a1.heap[k]?=O.heap[k]?)/\a1.heap.size=O.heap.size/\Below w.heap.size O a1):=(⟨h,G,I _ (lF _)⟩);clear j h G I)|(refine zW (by rfl) (.tmp 3) (by rfl) w.heap.size (by rfl) (by exact b4.o) (by simp[b8.o]) ?_)|(refine zM (by rfl) (.tmp 4) (.tmp 93) (by rfl) (w.heap.size+1) _ (by rfl) (by rfl) (by exact(a5.o.1 _ (by omega)).trans c5.o.2) (by rfl) (by simp[b8.o]) (yA _) ?_;intro a2 j h G I) | fail)
        refine lT (dN rfl (by rfl) j (by simp[b8.o])) rfl ⟨?_,Keep.whole (Keep.whole f1.o a5.o.1 a5.o.2.1 a5.o.2.2) h G (I _ (by omega)),?_⟩
        ·rw[b2.o];rfl
        ·rw[b2.o];have c7:=b7.o;have U:=a5.o.1;exact(f2.o.mem (U _ (by omega)) (U _ (by omega)) (U _ (by omega)) (U _ (by omega)) (U _ (by omega))).mem (h _ (by omega)) (h _ (by omega)) (h _ (by omega)) (h _ (by omega)) (h _ (by omega))
       | true =>
        have h8:=i6.o e8;have b2:=hid h8.1;have i5:=hid h8.2.1;have i2:=hid h8.2.2;clear b9 i6 h8;go_wp2_with (first|(refine zM (by rfl) (.tmp 3) (.tmp 89) (by rfl) w.heap.size (A.1.map (Value.int .i64)).toArray (by rfl) (by rfl) (by exact c5.o.1) (by simp[a0.o]) (by simp[b8.o]) (yA _) ?_;intro a1 j h G I;have b4:Hid (a1.heap[w.heap.size]?=some (.cells (A.1.map (Value.int .i64)).toArray 93 (0,0))):=(j);have a5:Hid ((∀k,k≠w.heap.size->a1.heap[k]?=O.heap[k]?)/\a1.heap.size=O.heap.size/\Below w.heap.size O a1):=(⟨h,G,I _ (lF _)⟩);clear j h G I) | fail)
        have c7:=b7.o;have U:=a5.o.1
        have g0:kP a1 wb gc gi ga gk cc ci ca ck c zL qU ar zD r.kn r.zA (zD-(r.n:Int)) false:=by
         have:=(f2.o.mem (U _ (by omega)) (U _ (by omega)) (U _ (by omega)) (U _ (by omega)) (U _ (by omega)))
         rw[i5.o]at this;exact this
        go_roundw
        case rel=>exact⟨r.n,A.1,r.kn,r.zA,g0,b4.o,(U _ (by omega)).trans c5.o.2,Keep.whole f1.o U a5.o.2.1 a5.o.2.2,i2.o,c3.o.1,c3.o.2,by omega,b2.o⟩
        case measure=>rw[yx g0,yx i7.o];have:=b1.o;omega
      ·have t6:(X.op==11)=false:=by simp;omega
       have W:=e0.o;rw[g7.o,lC (by simp),h1.o,lC c1,lC g6,lC f0]at W
       have m0:(kW zL s1 X).2=true->Mt.Good c.length zL.size (kW zL s1 X).1:=λj5=>by
        have:=yu (t:=zL) c8.o.ok b0.o.1 (by rw[d7.o,f4.o];exact g6) (by rw[d7.o,f4.o];exact f0) (by rw[d7.o,f4.o];omega) (by rw[d7.o,f4.o];exact j5);rw[d7.o,f4.o]at this;exact this
       have m1:(kW zL s1 X).1.length=44:=by rw[KW];exact a0.o
       have f5:Hid (CT 77 #[.pointer (some ⟨wb,0,none⟩),nS s1,ow X] a4 λe w'=>e=.returned (.tuple #[nS (kW zL s1 X).1,.bool (kW zL s1 X).2])/\Below a4.heap.size a4 w'):=zDB c9.o c8.o s1 b0.o.1 X (by rw[d7.o];exact g8.o);generalize kW zL s1 X=e2 at *;have b8:=hid m1;have i3:=hid m0;have c0:=hid W;clear W m1 m0;go_wp2_with (first|(refine zW (by rfl) (.tmp 3) (by rfl) w.heap.size (by rfl) (by exact a9.o.1) (by simp[a0.o]) ?_) | fail)
       refine f5.o.mono ?_;rintro e O ⟨rfl,e6⟩;have f2:=hid (c9.o.below e6);have c5:Hid (O.heap[w.heap.size]?=some (.cells (s1.map (Value.int .i64)).toArray 93 (0,0))/\O.heap[w.heap.size+1]?=some DY):=⟨(e6.block _ (by omega)).trans a9.o.1,(e6.block _ (by omega)).trans a9.o.2⟩
       have f1:=hid (d1.o.trans (Keep.below e6));have p5:=e6.size;clear f5 c9 a9 d1 f3 j7 j8 j9 k0 e6;cases e8:e2.2 with
       | false =>
        have b9:=c0.o;rw[e8,lC (by simp)]at b9;have c3:=hid b9;clear b9 c0 i3;go_wp2_with (first|(refine zM (by rfl) (.tmp 3) (.tmp 52) (by rfl) w.heap.size (e2.1.map (Value.int .i64)).toArray (by rfl) (by rfl) (by exact c5.o.1) (by simp[a0.o]) (by simp[b8.o]) (yA _) ?_;intro a1 j h G I;have b4:Hid (a1.heap[w.heap.size]?=some (.cells (e2.1.map (Value.int .i64)).toArray 93 (0,0))):=(j);have a5:Hid ((∀k,k≠w.heap.size->a1.heap[k]?=O.heap[k]?)/\a1.heap.size=O.heap.size/\Below w.heap.size O a1):=(⟨h,G,I _ (lF _)⟩);clear j h G I)|(refine zW (by rfl) (.tmp 3) (by rfl) w.heap.size (by rfl) (by exact b4.o) (by simp[b8.o]) ?_)|(refine zM (by rfl) (.tmp 4) (.tmp 93) (by rfl) (w.heap.size+1) _ (by rfl) (by rfl) (by exact(a5.o.1 _ (by omega)).trans c5.o.2) (by rfl) (by simp[b8.o]) (yA _) ?_;intro a2 j h G I) | fail)
        refine lT (dN rfl (by rfl) j (by simp[b8.o])) rfl ⟨?_,Keep.whole (Keep.whole f1.o a5.o.1 a5.o.2.1 a5.o.2.2) h G (I _ (by omega)),?_⟩
        ·rw[c3.o];rfl
        ·rw[c3.o];have c7:=b7.o;have U:=a5.o.1;have:=(f2.o.mem (U _ (by omega)) (U _ (by omega)) (U _ (by omega)) (U _ (by omega)) (U _ (by omega))).mem (h _ (by omega)) (h _ (by omega)) (h _ (by omega)) (h _ (by omega)) (h _ (by omega));rw[show a6+1=zD-((k:Nat):Int) by rw[b1.o];omega]at this;exact this
       | true =>
        have b9:=c0.o;rw[e8,lG rfl]at b9;have c3:=hid b9;have i2:=hid (i3.o e8);clear b9 c0 i3;go_wp2_with (first|(refine zM (by rfl) (.tmp 3) (.tmp 52) (by rfl) w.heap.size (e2.1.map (Value.int .i64)).toArray (by rfl) (by rfl) (by exact c5.o.1) (by simp[a0.o]) (by simp[b8.o]) (yA _) ?_;intro a1 j h G I;have b4:Hid (a1.heap[w.heap.size]?=some (.cells (e2.1.map (Value.int .i64)).toArray 93 (0,0))):=(j);have a5:Hid ((∀k,k≠w.heap.size->a1.heap[k]?=O.heap[k]?)/\a1.heap.size=O.heap.size/\Below w.heap.size O a1):=(⟨h,G,I _ (lF _)⟩);clear j h G I) | fail)
        have c7:=b7.o;have U:=a5.o.1
        have g0:kP a1 wb gc gi ga gk cc ci ca ck c zL qU ar zD Y Z (zD-((k:Nat):Int)) false:=by
         have:=(f2.o.mem (U _ (by omega)) (U _ (by omega)) (U _ (by omega)) (U _ (by omega)) (U _ (by omega)))
         rw[show a6+1=zD-((k:Nat):Int) by rw[b1.o];omega]at this;exact this
        go_roundw
        case rel=>exact⟨k,e2.1,Y,Z,g0,b4.o,(U _ (by omega)).trans c5.o.2,Keep.whole f1.o U a5.o.2.1 a5.o.2.2,i2.o,c2.o.1,c2.o.2,by omega,c3.o⟩
        case measure=>rw[yx g0,yx i7.o];have:=b1.o;omega
