import Derived.Test.YtebpgfodelggoabGreatKC14
import Derived.Test.YtebpgfodelggoabGreatKC15
set_option linter.unusedVariables false
set_option linter.unusedSimpArgs false
set_option maxRecDepth 100000
set_option maxHeartbeats 4000000
namespace Go.Proofs.YtebpgfodelggoabGreat
open Go.RowKit
theorem zIR(w:World)(A B C D:Obj):((((w.alloc A).alloc B).alloc C).alloc D).heap[w.heap.size+1+1+1]?=some D:=by
 have:(((w.alloc A).alloc B).alloc C).heap.size=w.heap.size+1+1+1:=by simp
 rw[<-this,heap_alloc_new]
theorem zFm(w:World)(A B C D:Obj):((((w.alloc A).alloc B).alloc C).alloc D).heap[w.heap.size]?=some A:=by
 rw[kT _ _ _ (by simp;omega)];exact nC _ _ _ _
theorem zFn(w:World)(A B C D:Obj):((((w.alloc A).alloc B).alloc C).alloc D).heap[w.heap.size+1]?=some B:=by
 rw[kT _ _ _ (by simp),kT _ _ _ (by simp)];have:(w.alloc A).heap.size=w.heap.size+1:=by simp
 rw[<-this,heap_alloc_new]
theorem zFo(w:World)(A B C D:Obj):((((w.alloc A).alloc B).alloc C).alloc D).heap[w.heap.size+1+1]?=some C:=by
 rw[kT _ _ _ (by simp)];exact zAp _ _ _ _
theorem zIS(w:World)(A B C D:Obj):Below w.heap.size w ((((w.alloc A).alloc B).alloc C).alloc D) :=
 ((((Below.refl _ _).alloc (lG _) _).alloc (by simp) _).alloc (by simp;omega) _).alloc (by simp;omega) _
theorem yV{w:World}{b:Nat}{s:List Int}{t:TypeId}(h:w.heap[b]?=some (.cells (s.map (Value.int .i64)).toArray t (0,0)))(i:Nat)(v:Int):(w.setCell ⟨b,i,none⟩ (.int .i64 v)).heap[b]?=some (.cells ((s.set i v).map (Value.int .i64)).toArray t (0,0)):=by
 rw[Go.heap_setCell_same w b i _ _ _ h,zQs]
theorem pJ{w:World}{b:Nat}{s:List Int}{t:TypeId}(h:w.heap[b]?=some (.cells (s.map (Value.int .i64)).toArray t (0,0)))(i:Nat)(v:Int)(hv:s[i]?=some v):w.cell? ⟨b,i,none⟩=some (.int .i64 v):=by
 rw[(zC h).1];simp[hv]
theorem dD{w:World}{b:Nat}{s:List Int}{t:TypeId}(h:w.heap[b]?=some (.cells (s.map (Value.int .i64)).toArray t (0,0)))(i:Nat):w.frozen? ⟨b,i,none⟩=false:=(zC h).2 i
theorem Keep.blk{wb gk:Nat}{a b:World}(h:Keep wb gk a b)(k:Nat)(hk:k<a.heap.size)(h1:k≠wb)(h2:k≠gk):b.heap[k]?=a.heap[k]?:=h.block k hk h1 h2
theorem zBI(b:Nat)(t:TypeId):∀(vs:List Value) (o:Nat) (w:World) (L:List Value),w.heap[b]?=some (.cells L.toArray t (0,0))->o+vs.length<=L.length->(w.setCells b o vs).heap[b]?=some (.cells (L.take o++(vs++L.drop (o+vs.length))).toArray t (0,0))
 | [],o,w,L,h,_=>by
  show w.heap[b]?=_;rw[h];simp
 | v::r,o,w,L,h,hl=>by
  have h1:=Go.heap_setCell_same w b o _ t v h;rw[lC]at h1;have h2:=zBI b t r (o+1) (w.setCell ⟨b,o,none⟩ v) (L.set o v) h1 (by simp at hl |-;omega);show((w.setCell ⟨b,o,none⟩ v).setCells b (o+1) r).heap[b]?=_;rw[h2];have ho:o<L.length:=by simp at hl;omega
  have e:(L.set o v).take (o+1)++(r++(L.set o v).drop (o+1+r.length))=L.take o++((v::r)++L.drop (o+(v::r).length)):=by
   rw[List.drop_set_of_lt (by omega),List.take_set,List.take_succ_eq_append_getElem ho,List.set_append_right _ _ (by simp;omega)];simp[Nat.min_eq_left (Nat.le_of_lt ho)];congr 1;omega
  rw[e]
theorem zEn{ops:Array Oper}{rest:List Oper}{op:Oper}{a:Act}{w:World}{Q:Exit->Act->World->Prop}(hgd:op.guard=none)(x:Operand)(ho:op.op=.load 55 x)
  (b:Nat) (hx:a.eval x=.pointer (some ⟨b,2,none⟩)) {t:TypeId} (r:List Int) (hr:r.length=44) (hA:w.heap[b]?=some (.cells (r.map (Value.int .i64)).toArray t (0,0)))
  (h:wpList Tryz.prog ops Q rest (a.put op.dst (.agg (((r.map (Value.int .i64)).drop 2).take 20).toArray)) w):wpList Tryz.prog ops Q (op::rest) a w :=
 wpList_load_mid hgd _ x ho b 2 hx (((r.drop 2).take 20).map (Value.int .i64)) _ (λj v hv=>by
  rw[(zC hA).1];rw[List.getElem?_map]at hv;by_cases hj:j<20
  ·rw[List.getElem?_take_of_lt hj,List.getElem?_drop]at hv;simp[<-hv]
  ·rw[List.getElem?_eq_none (by simp;omega)]at hv;simp at hv) Tryz.underlying55 rfl (by rw[Tryz.size55];simp[hr]) (by rw[List.map_take,List.map_drop];exact h)
theorem zDy{ops:Array Oper}{rest:List Oper}{op:Oper}{a:Act}{w:World}{Q:Exit->Act->World->Prop}(hgd:op.guard=none)(x y:Operand)(ho:op.op=.store 55 x y)
  (b:Nat) (s r:List Int) (hs:s.length=44) (hr:r.length=44) (hx:a.eval x=.pointer (some ⟨b,2,none⟩)) (hy:a.eval y=.agg (((r.map (Value.int .i64)).drop 2).take 20).toArray) {t:TypeId} (hB:w.heap[b]?=some (.cells (s.map (Value.int .i64)).toArray t (0,0)))
  (h:∀w2:World,w2.heap[b]?=some (.cells ((Mt.zAy s r).map (Value.int .i64)).toArray t (0,0))->(∀k,k≠b->w2.heap[k]?=w.heap[k]?)->w2.heap.size=w.heap.size->(∀L,L<=b->Below L w w2)->wpList Tryz.prog ops Q rest (a.put op.dst undef) w2):wpList Tryz.prog ops Q (op::rest) a w:=by
 have hb:=zC hB;rw[<-List.map_drop,<-List.map_take]at hy;have hl:(((r.drop 2).take 20).map (Value.int .i64)).length=20:=by simp[hr]
 refine wpList_store_mid hgd _ x y ho b 2 _ hx hy (λj hj=>?_) (by rw[Tryz.size55];simp[hr]) (qD _) ?_
 ·have hj':j<20:=by simpa[hr]using hj
  rw[hb.1,List.getElem?_toArray,List.getElem?_map,lK (by omega)];exact⟨rfl,hb.2 _⟩
 ·refine h _ ?_ (λk hk=>qB b _ 2 w k hk) (below_setCells b _ 2 w 0 (Nat.zero_le _)).2 (λL hL=>(below_setCells b _ 2 w L hL).1);have:=zBI b t (((r.drop 2).take 20).map (Value.int .i64)) 2 w _ hB (by rw[hl];simp[hs]);rw[hl]at this;show(w.setCells b 2 (((r.drop 2).take 20).map (Value.int .i64))).heap[b]?=_;rw[this];simp[Mt.zAy]
theorem zJV{w:World}{wb gc gi ga gk cc ci ca ck:Nat}{c:List Mt.zTG}{zK:ByteArray}{zTM:List Bool}{ar:List Int}{zA:Int}{kn zTN:List Bool}{zD qE zX pW:Int}{qI:Bool}
  (h:zU w wb gc gi ga gk cc ci ca ck c zK zTM ar zA kn zD qE qI) (s r:List Int) (ok:Bool) (x:Mt.zTG) (pc:Nat) (h0:s[0]?=some (pc:Int)) (hs:s.length=44) (hr:r.length=44) (hpc:pc<=300)
  (KL:Hid (∀z:World,zU z wb gc gi ga gk cc ci ca ck c zK zTM ar zA kn zD qE qI->Calls Tryz.prog 82 #[.pointer (some ⟨wb,0,none⟩),stV (s.set 0 ((pc:Int)+1))] z λe w'=>e=.returned (.tuple #[stV r,.bool ok])/\Keep wb gk z w'/\zU w' wb gc gi ga gk cc ci ca ck c zK zTM ar zA zTN zX pW true)) :
  Calls Tryz.prog 117 #[.pointer (some ⟨wb,0,none⟩),stV s,zAT x] w λe w'=>e=.returned (.tuple #[stV s,.bool false])/\Keep wb gk w w'/\zU w' wb gc gi ga gk cc ci ca ck c zK zTM ar zA zTN zX pW true:=by
 have HS:Hid (s.length=44):=hs;have HR:Hid (r.length=44):=hr;have HW:Hid (zU w wb gc gi ga gk cc ci ca ck c zK zTM ar zA kn zD qE qI):=h;have zTI:=h.lt;have lwb:wb<w.heap.size:=zTI.1;have lgk:gk<w.heap.size:=zTI.2.2.2.2;have HLT:Hid (wb<w.heap.size/\gc<w.heap.size/\gi<w.heap.size/\ga<w.heap.size/\gk<w.heap.size):=zTI;clear hs h hr zTI;unfold stV zAT;have hz:=dB;go_enter Tryz.func117,Tryz.ntmps117
 go_wp2_with (first|(refine zP (by rfl) (.tmp 4) (by rfl) w.heap.size (by rfl) (by exact nC _ _ _ _) (by simp[HS.out]) ?_)|(refine zL (by rfl) (.tmp 8) (.tmp 11) (by rfl) (w.heap.size+1+1+1) _ (by rfl) (by rfl) (by exact zIR _ _ _ _ _) (by rfl) (by simp[HS.out]) (qD _) ?_;intro w2 r1 r2 r3 r4;have c0:w2.cell? ⟨w.heap.size+1+1+1,0,none⟩=some (.int .i64 (pc:Int)):=(pJ r1 0 _ h0);have z0:=(dD r1 0);have R1:Hid (w2.heap[w.heap.size+1+1+1]?=some (.cells (s.map (Value.int .i64)).toArray 139 (0,0))):=(r1);have r3':w2.heap.size=w.heap.size+1+1+1+1:=(by simpa using r3);have R2:Hid (w2.heap[w.heap.size]?=some (.cells (s.map (Value.int .i64)).toArray 139 (0,0))/\w2.heap[w.heap.size+1+1]?=some zBn):=(⟨(r2 _ (by omega)).trans (zFm _ _ _ _ _),(r2 _ (by omega)).trans (zFo _ _ _ _ _)⟩);have R5:Hid (w2.heap[w.heap.size+1]?=some (.cells #[.int .i64 x.op,.int .i64 x.x,.int .i64 x.y,.string ⟨x.set.toArray⟩] 48 (0,0))):=((r2 _ (by omega)).trans (zFn _ _ _ _ _));have hB:Below w.heap.size w w2:=((zIS _ _ _ _ _).trans (r4 _ (by omega)));clear r1 r2 r3 r4)|(refine zP (by rfl) (.tmp 8) (by rfl) (w.heap.size+1+1+1) (by rfl) (by exact yV R1.out 0 _) (by simp[HS.out]) ?_) | fail)
 generalize hw3:w2.setCell ⟨w.heap.size+1+1+1,0,none⟩ (.int .i64 ((pc:Int)+1))=w3 at *;have hB3:Below w.heap.size w w3:=by rw[<-hw3];exact hB.setCell (p:=⟨w.heap.size+1+1+1,0,none⟩) (by show w.heap.size<=w.heap.size+1+1+1;omega) _
 have o3:∀k,k≠w.heap.size+1+1+1->w3.heap[k]?=w2.heap[k]?:=λk hk=>by rw[<-hw3];exact Below.heap_setCell _ _ _ _ hk
 have s3:w3.heap.size=w.heap.size+1+1+1+1:=by rw[<-hw3];simpa[World.setCell]using r3'
 have q0:w3.heap[w.heap.size]?=some (.cells (s.map (Value.int .i64)).toArray 139 (0,0)):=(o3 _ (by omega)).trans R2.out.1;have q2:w3.heap[w.heap.size+1+1]?=some zBn:=(o3 _ (by omega)).trans R2.out.2;have q1:w3.heap[w.heap.size+1]?=some (.cells #[.int .i64 x.op,.int .i64 x.x,.int .i64 x.y,.string ⟨x.set.toArray⟩] 48 (0,0)):=(o3 _ (by omega)).trans R5.out;clear hw3 o3 R1 R2 R5 c0 z0 hB r3' w2;rw[qF];refine(KL.out w3 (HW.out.below hB3)).mono ?_;rintro e w4 ⟨rfl,hk4,hW4⟩;have s4:w.heap.size+1+1+1+1<=w4.heap.size:=by rw[<-s3];exact hk4.size
 have Q0:Hid (w4.heap[w.heap.size]?=some (.cells (s.map (Value.int .i64)).toArray 139 (0,0))):=(hk4.blk _ (by omega) (by omega) (by omega)).trans q0;have Q2:Hid (w4.heap[w.heap.size+1+1]?=some zBn):=(hk4.blk _ (by omega) (by omega) (by omega)).trans q2;have Q1:Hid (w4.heap[w.heap.size+1]?=some (.cells #[.int .i64 x.op,.int .i64 x.x,.int .i64 x.y,.string ⟨x.set.toArray⟩] 48 (0,0))):=(hk4.blk _ (by omega) (by omega) (by omega)).trans q1;have K4:Hid (Keep wb gk w w4):=(Keep.below hB3).trans hk4;have W4:Hid (zU w4 wb gc gi ga gk cc ci ca ck c zK zTM ar zA zTN zX pW true):=hW4;clear KL HW hB3 s3 q0 q1 q2 hk4 hW4;go_wp2_with (first|(refine zL (by rfl) (.tmp 9) (.tmp 20) (by rfl) w4.heap.size (r.map (Value.int .i64)).toArray (by rfl) (by rfl) (by exact heap_alloc_new _ _) (by rfl) (by simp[HR.out]) (qD _) ?_;intro w5 r1 r2 r3 r4;have hB5:Below w4.heap.size w4 w5:=(((Below.refl _ _).alloc (lG _) _).trans (r4 _ (lG _)));have c8:w5.cell? ⟨wb,8,none⟩=some (.bool true):=((zC (W4.out.below hB5).cell).1 8);have y1:=(zC ((hB5.block _ (by omega)).trans Q1.out)).1;have P0:Hid (w5.heap[w.heap.size]?=some (.cells (s.map (Value.int .i64)).toArray 139 (0,0))):=((hB5.block _ (by omega)).trans Q0.out);have P2:Hid (w5.heap[w.heap.size+1+1]?=some zBn):=((hB5.block _ (by omega)).trans Q2.out);have R1:Hid (w5.heap[w4.heap.size]?=some (.cells (r.map (Value.int .i64)).toArray 139 (0,0))):=(r1);have s5:w5.heap.size=w4.heap.size+1:=(by simpa using r3);have l5:wb<w5.heap.size:=(by omega);have l6:w.heap.size+1<w5.heap.size:=(by omega);have l7:w4.heap.size<w5.heap.size:=(by omega);have l8:w.heap.size<w5.heap.size:=(by omega);have B5:Hid (Below w4.heap.size w4 w5):=(hB5);clear r1 r2 r3 r4 hB5)|(refine zP (by rfl) (.tmp 4) (by rfl) w.heap.size (by rfl) (by exact P0.out) (by simp[HS.out]) ?_)|(refine zL (by rfl) (.tmp 6) (.tmp 26) (by rfl) (w.heap.size+1+1) _ (by rfl) (by rfl) (by exact P2.out) (by rfl) (by simp[HS.out]) (qD _) ?_;intro w6 r1 r2 r3 r4) | fail)
 have s6:w6.heap.size=w5.heap.size:=r3
 have hK:Keep wb gk w w6:=by
  have k5:=K4.out.trans (Keep.below B5.out);have b6:=r4 w.heap.size (by omega);refine⟨b6.os.trans k5.os,b6.tape.trans k5.tape,b6.output.trans k5.output,Nat.le_trans k5.size b6.size,λi hi h1 h2=>?_⟩;rw[r2 i (by omega)];exact k5.block i hi h1 h2
 have hW:zU w6 wb gc gi ga gk cc ci ca ck c zK zTM ar zA zTN zX pW true:=by
  have w5W:=W4.out.below B5.out;have hx:=HLT.out;exact w5W.mem (r2 _ (by omega)) (r2 _ (by omega)) (r2 _ (by omega)) (r2 _ (by omega)) (r2 _ (by omega))
 refine bodyPost_ret (pU rfl (by rfl) r1 (by simp[HS.out,HR.out])) rfl ⟨?_,hK,hW⟩;rfl
theorem zGE{w:World}{wb gc gi ga gk cc ci ca ck:Nat}{c:List Mt.zTG}{zK:ByteArray}{zTM:List Bool}{ar:List Int}{zA:Int}{kn zTN:List Bool}{zD qE zX pW:Int}{qI:Bool}
  (h:zU w wb gc gi ga gk cc ci ca ck c zK zTM ar zA kn zD qE qI) (s r:List Int) (ok:Bool) (x:Mt.zTG) (pc:Nat) (h0:s[0]?=some (pc:Int)) (hs:s.length=44) (hr:r.length=44) (hpc:pc<=300) (o0:(x.x==0)=true)
  (KL:Hid (∀z:World,zU z wb gc gi ga gk cc ci ca ck c zK zTM ar zA kn zD qE qI->Calls Tryz.prog 82 #[.pointer (some ⟨wb,0,none⟩),stV (s.set 0 ((pc:Int)+1))] z λe w'=>e=.returned (.tuple #[stV r,.bool ok])/\Keep wb gk z w'/\zU w' wb gc gi ga gk cc ci ca ck c zK zTM ar zA zTN zX pW false)) :
  Calls Tryz.prog 117 #[.pointer (some ⟨wb,0,none⟩),stV s,zAT x] w λe w'=>e=.returned (.tuple #[stV (r.set 0 x.y),.bool ok])/\Keep wb gk w w'/\zU w' wb gc gi ga gk cc ci ca ck c zK zTM ar zA zTN zX pW false:=by
 have HS:Hid (s.length=44):=hs;have HR:Hid (r.length=44):=hr;have HW:Hid (zU w wb gc gi ga gk cc ci ca ck c zK zTM ar zA kn zD qE qI):=h;have zTI:=h.lt;have lwb:wb<w.heap.size:=zTI.1;have lgk:gk<w.heap.size:=zTI.2.2.2.2;have HLT:Hid (wb<w.heap.size/\gc<w.heap.size/\gi<w.heap.size/\ga<w.heap.size/\gk<w.heap.size):=zTI;clear hs h hr zTI;unfold stV zAT;have hz:=dB;go_enter Tryz.func117,Tryz.ntmps117
 go_wp2_with (first|(refine zP (by rfl) (.tmp 4) (by rfl) w.heap.size (by rfl) (by exact nC _ _ _ _) (by simp[HS.out]) ?_)|(refine zL (by rfl) (.tmp 8) (.tmp 11) (by rfl) (w.heap.size+1+1+1) _ (by rfl) (by rfl) (by exact zIR _ _ _ _ _) (by rfl) (by simp[HS.out]) (qD _) ?_;intro w2 r1 r2 r3 r4;have c0:w2.cell? ⟨w.heap.size+1+1+1,0,none⟩=some (.int .i64 (pc:Int)):=(pJ r1 0 _ h0);have z0:=(dD r1 0);have R1:Hid (w2.heap[w.heap.size+1+1+1]?=some (.cells (s.map (Value.int .i64)).toArray 139 (0,0))):=(r1);have r3':w2.heap.size=w.heap.size+1+1+1+1:=(by simpa using r3);have R2:Hid (w2.heap[w.heap.size]?=some (.cells (s.map (Value.int .i64)).toArray 139 (0,0))/\w2.heap[w.heap.size+1+1]?=some zBn):=(⟨(r2 _ (by omega)).trans (zFm _ _ _ _ _),(r2 _ (by omega)).trans (zFo _ _ _ _ _)⟩);have R5:Hid (w2.heap[w.heap.size+1]?=some (.cells #[.int .i64 x.op,.int .i64 x.x,.int .i64 x.y,.string ⟨x.set.toArray⟩] 48 (0,0))):=((r2 _ (by omega)).trans (zFn _ _ _ _ _));have hB:Below w.heap.size w w2:=((zIS _ _ _ _ _).trans (r4 _ (by omega)));clear r1 r2 r3 r4)|(refine zP (by rfl) (.tmp 8) (by rfl) (w.heap.size+1+1+1) (by rfl) (by exact yV R1.out 0 _) (by simp[HS.out]) ?_) | fail)
 generalize hw3:w2.setCell ⟨w.heap.size+1+1+1,0,none⟩ (.int .i64 ((pc:Int)+1))=w3 at *;have hB3:Below w.heap.size w w3:=by rw[<-hw3];exact hB.setCell (p:=⟨w.heap.size+1+1+1,0,none⟩) (by show w.heap.size<=w.heap.size+1+1+1;omega) _
 have o3:∀k,k≠w.heap.size+1+1+1->w3.heap[k]?=w2.heap[k]?:=λk hk=>by rw[<-hw3];exact Below.heap_setCell _ _ _ _ hk
 have s3:w3.heap.size=w.heap.size+1+1+1+1:=by rw[<-hw3];simpa[World.setCell]using r3'
 have q0:w3.heap[w.heap.size]?=some (.cells (s.map (Value.int .i64)).toArray 139 (0,0)):=(o3 _ (by omega)).trans R2.out.1;have q2:w3.heap[w.heap.size+1+1]?=some zBn:=(o3 _ (by omega)).trans R2.out.2;have q1:w3.heap[w.heap.size+1]?=some (.cells #[.int .i64 x.op,.int .i64 x.x,.int .i64 x.y,.string ⟨x.set.toArray⟩] 48 (0,0)):=(o3 _ (by omega)).trans R5.out;clear hw3 o3 R1 R2 R5 c0 z0 hB r3' w2;rw[qF];refine(KL.out w3 (HW.out.below hB3)).mono ?_;rintro e w4 ⟨rfl,hk4,hW4⟩;have s4:w.heap.size+1+1+1+1<=w4.heap.size:=by rw[<-s3];exact hk4.size
 have Q0:Hid (w4.heap[w.heap.size]?=some (.cells (s.map (Value.int .i64)).toArray 139 (0,0))):=(hk4.blk _ (by omega) (by omega) (by omega)).trans q0;have Q2:Hid (w4.heap[w.heap.size+1+1]?=some zBn):=(hk4.blk _ (by omega) (by omega) (by omega)).trans q2;have Q1:Hid (w4.heap[w.heap.size+1]?=some (.cells #[.int .i64 x.op,.int .i64 x.x,.int .i64 x.y,.string ⟨x.set.toArray⟩] 48 (0,0))):=(hk4.blk _ (by omega) (by omega) (by omega)).trans q1;have K4:Hid (Keep wb gk w w4):=(Keep.below hB3).trans hk4;have W4:Hid (zU w4 wb gc gi ga gk cc ci ca ck c zK zTM ar zA zTN zX pW false):=hW4;clear KL HW hB3 s3 q0 q1 q2 hk4 hW4;go_wp2_with (first|(refine zL (by rfl) (.tmp 9) (.tmp 20) (by rfl) w4.heap.size (r.map (Value.int .i64)).toArray (by rfl) (by rfl) (by exact heap_alloc_new _ _) (by rfl) (by simp[HR.out]) (qD _) ?_;intro w5 r1 r2 r3 r4;have hB5:Below w4.heap.size w4 w5:=(((Below.refl _ _).alloc (lG _) _).trans (r4 _ (lG _)));have c8:w5.cell? ⟨wb,8,none⟩=some (.bool false):=((zC (W4.out.below hB5).cell).1 8);have y1:=(zC ((hB5.block _ (by omega)).trans Q1.out)).1;have P0:Hid (w5.heap[w.heap.size]?=some (.cells (s.map (Value.int .i64)).toArray 139 (0,0))):=((hB5.block _ (by omega)).trans Q0.out);have P2:Hid (w5.heap[w.heap.size+1+1]?=some zBn):=((hB5.block _ (by omega)).trans Q2.out);have R1:Hid (w5.heap[w4.heap.size]?=some (.cells (r.map (Value.int .i64)).toArray 139 (0,0))):=(r1);have s5:w5.heap.size=w4.heap.size+1:=(by simpa using r3);have l5:wb<w5.heap.size:=(by omega);have l6:w.heap.size+1<w5.heap.size:=(by omega);have l7:w4.heap.size<w5.heap.size:=(by omega);have l8:w.heap.size<w5.heap.size:=(by omega);have B5:Hid (Below w4.heap.size w4 w5):=(hB5);have hr0:r[0]?=some (Mt.gt r 0):=(by unfold Mt.gt;rw[lH,lK (by rw[HR.out];omega)];rfl);have c90:=(pJ R1.out 0 _ hr0);have z90:=(dD R1.out 0);have c00:=(pJ P0.out 0 _ h0);have z00:=(dD P0.out 0);clear r1 r2 r3 r4 hB5)|(refine zP (by rfl) (.tmp 9) (by rfl) w4.heap.size (by rfl) (by exact yV R1.out 0 _) (by simp[HR.out]) ?_)|(refine zL (by rfl) (.tmp 6) (.tmp 34) (by rfl) (w.heap.size+1+1) _ (by rfl) (by rfl) (by exact(Below.heap_setCell _ _ _ _ (by show w.heap.size+1+1≠w4.heap.size;omega)).trans P2.out) (by rfl) (by simp[HR.out]) (by simp only[qF];exact qD _) ?_;intro w6 r1 r2 r3 r4) | fail)
 have B7:Hid (Below w4.heap.size w4 (w5.setCell ⟨w4.heap.size,0,none⟩ (.int .i64 x.y))):=B5.out.setCell (p:=⟨w4.heap.size,0,none⟩) (lG _) _;generalize w5.setCell ⟨w4.heap.size,0,none⟩ (.int .i64 x.y)=w7 at *;have s6:w6.heap.size=w7.heap.size:=r3
 have hK:Keep wb gk w w6:=by
  have k5:=K4.out.trans (Keep.below B7.out);have b6:=r4 w.heap.size (by omega);refine⟨b6.os.trans k5.os,b6.tape.trans k5.tape,b6.output.trans k5.output,Nat.le_trans k5.size b6.size,λi hi h1 h2=>?_⟩;rw[r2 i (by omega)];exact k5.block i hi h1 h2
 have hW:zU w6 wb gc gi ga gk cc ci ca ck c zK zTM ar zA zTN zX pW false:=by
  have w5W:=W4.out.below B7.out;have hx:=HLT.out;exact w5W.mem (r2 _ (by omega)) (r2 _ (by omega)) (r2 _ (by omega)) (r2 _ (by omega)) (r2 _ (by omega))
 refine bodyPost_ret (pU rfl (by rfl) r1 (by simp[HS.out,HR.out])) rfl ⟨?_,hK,hW⟩;simp only[qF];rfl
theorem zHZ{w:World}{wb gc gi ga gk cc ci ca ck:Nat}{c:List Mt.zTG}{zK:ByteArray}{zTM:List Bool}{ar:List Int}{zA:Int}{kn zTN:List Bool}{zD qE zX pW:Int}{qI:Bool}
  (h:zU w wb gc gi ga gk cc ci ca ck c zK zTM ar zA kn zD qE qI) (s r:List Int) (ok:Bool) (x:Mt.zTG) (pc:Nat) (h0:s[0]?=some (pc:Int)) (hs:s.length=44) (hr:r.length=44) (hpc:pc<=300) (o0:(x.x==0)=false) (o1:(x.x==1)=true)
  (KL:Hid (∀z:World,zU z wb gc gi ga gk cc ci ca ck c zK zTM ar zA kn zD qE qI->Calls Tryz.prog 82 #[.pointer (some ⟨wb,0,none⟩),stV (s.set 0 ((pc:Int)+1))] z λe w'=>e=.returned (.tuple #[stV r,.bool ok])/\Keep wb gk z w'/\zU w' wb gc gi ga gk cc ci ca ck c zK zTM ar zA zTN zX pW false)) :
  Calls Tryz.prog 117 #[.pointer (some ⟨wb,0,none⟩),stV s,zAT x] w λe w'=>e=.returned (.tuple #[stV ((Mt.zAy s r).set 0 x.y),.bool ok])/\Keep wb gk w w'/\zU w' wb gc gi ga gk cc ci ca ck c zK zTM ar zA zTN zX pW false:=by
 have HS:Hid (s.length=44):=hs;have HR:Hid (r.length=44):=hr;have HW:Hid (zU w wb gc gi ga gk cc ci ca ck c zK zTM ar zA kn zD qE qI):=h;have zTI:=h.lt;have lwb:wb<w.heap.size:=zTI.1;have lgk:gk<w.heap.size:=zTI.2.2.2.2;have HLT:Hid (wb<w.heap.size/\gc<w.heap.size/\gi<w.heap.size/\ga<w.heap.size/\gk<w.heap.size):=zTI;clear hs h hr zTI;unfold stV zAT;have hz:=dB;go_enter Tryz.func117,Tryz.ntmps117
 go_wp2_with (first|(refine zP (by rfl) (.tmp 4) (by rfl) w.heap.size (by rfl) (by exact nC _ _ _ _) (by simp[HS.out]) ?_)|(refine zL (by rfl) (.tmp 8) (.tmp 11) (by rfl) (w.heap.size+1+1+1) _ (by rfl) (by rfl) (by exact zIR _ _ _ _ _) (by rfl) (by simp[HS.out]) (qD _) ?_;intro w2 r1 r2 r3 r4;have c0:w2.cell? ⟨w.heap.size+1+1+1,0,none⟩=some (.int .i64 (pc:Int)):=(pJ r1 0 _ h0);have z0:=(dD r1 0);have R1:Hid (w2.heap[w.heap.size+1+1+1]?=some (.cells (s.map (Value.int .i64)).toArray 139 (0,0))):=(r1);have r3':w2.heap.size=w.heap.size+1+1+1+1:=(by simpa using r3);have R2:Hid (w2.heap[w.heap.size]?=some (.cells (s.map (Value.int .i64)).toArray 139 (0,0))/\w2.heap[w.heap.size+1+1]?=some zBn):=(⟨(r2 _ (by omega)).trans (zFm _ _ _ _ _),(r2 _ (by omega)).trans (zFo _ _ _ _ _)⟩);have R5:Hid (w2.heap[w.heap.size+1]?=some (.cells #[.int .i64 x.op,.int .i64 x.x,.int .i64 x.y,.string ⟨x.set.toArray⟩] 48 (0,0))):=((r2 _ (by omega)).trans (zFn _ _ _ _ _));have hB:Below w.heap.size w w2:=((zIS _ _ _ _ _).trans (r4 _ (by omega)));clear r1 r2 r3 r4)|(refine zP (by rfl) (.tmp 8) (by rfl) (w.heap.size+1+1+1) (by rfl) (by exact yV R1.out 0 _) (by simp[HS.out]) ?_) | fail)
 generalize hw3:w2.setCell ⟨w.heap.size+1+1+1,0,none⟩ (.int .i64 ((pc:Int)+1))=w3 at *;have hB3:Below w.heap.size w w3:=by rw[<-hw3];exact hB.setCell (p:=⟨w.heap.size+1+1+1,0,none⟩) (by show w.heap.size<=w.heap.size+1+1+1;omega) _
 have o3:∀k,k≠w.heap.size+1+1+1->w3.heap[k]?=w2.heap[k]?:=λk hk=>by rw[<-hw3];exact Below.heap_setCell _ _ _ _ hk
 have s3:w3.heap.size=w.heap.size+1+1+1+1:=by rw[<-hw3];simpa[World.setCell]using r3'
 have q0:w3.heap[w.heap.size]?=some (.cells (s.map (Value.int .i64)).toArray 139 (0,0)):=(o3 _ (by omega)).trans R2.out.1;have q2:w3.heap[w.heap.size+1+1]?=some zBn:=(o3 _ (by omega)).trans R2.out.2;have q1:w3.heap[w.heap.size+1]?=some (.cells #[.int .i64 x.op,.int .i64 x.x,.int .i64 x.y,.string ⟨x.set.toArray⟩] 48 (0,0)):=(o3 _ (by omega)).trans R5.out;clear hw3 o3 R1 R2 R5 c0 z0 hB r3' w2;rw[qF];refine(KL.out w3 (HW.out.below hB3)).mono ?_;rintro e w4 ⟨rfl,hk4,hW4⟩;have s4:w.heap.size+1+1+1+1<=w4.heap.size:=by rw[<-s3];exact hk4.size
 have Q0:Hid (w4.heap[w.heap.size]?=some (.cells (s.map (Value.int .i64)).toArray 139 (0,0))):=(hk4.blk _ (by omega) (by omega) (by omega)).trans q0;have Q2:Hid (w4.heap[w.heap.size+1+1]?=some zBn):=(hk4.blk _ (by omega) (by omega) (by omega)).trans q2;have Q1:Hid (w4.heap[w.heap.size+1]?=some (.cells #[.int .i64 x.op,.int .i64 x.x,.int .i64 x.y,.string ⟨x.set.toArray⟩] 48 (0,0))):=(hk4.blk _ (by omega) (by omega) (by omega)).trans q1;have K4:Hid (Keep wb gk w w4):=(Keep.below hB3).trans hk4;have W4:Hid (zU w4 wb gc gi ga gk cc ci ca ck c zK zTM ar zA zTN zX pW false):=hW4;clear KL HW hB3 s3 q0 q1 q2 hk4 hW4;go_wp2_with (first|(refine zL (by rfl) (.tmp 9) (.tmp 20) (by rfl) w4.heap.size (r.map (Value.int .i64)).toArray (by rfl) (by rfl) (by exact heap_alloc_new _ _) (by rfl) (by simp[HR.out]) (qD _) ?_;intro w5 r1 r2 r3 r4;have hB5:Below w4.heap.size w4 w5:=(((Below.refl _ _).alloc (lG _) _).trans (r4 _ (lG _)));have c8:w5.cell? ⟨wb,8,none⟩=some (.bool false):=((zC (W4.out.below hB5).cell).1 8);have y1:=(zC ((hB5.block _ (by omega)).trans Q1.out)).1;have P0:Hid (w5.heap[w.heap.size]?=some (.cells (s.map (Value.int .i64)).toArray 139 (0,0))):=((hB5.block _ (by omega)).trans Q0.out);have P2:Hid (w5.heap[w.heap.size+1+1]?=some zBn):=((hB5.block _ (by omega)).trans Q2.out);have R1:Hid (w5.heap[w4.heap.size]?=some (.cells (r.map (Value.int .i64)).toArray 139 (0,0))):=(r1);have s5:w5.heap.size=w4.heap.size+1:=(by simpa using r3);have l5:wb<w5.heap.size:=(by omega);have l6:w.heap.size+1<w5.heap.size:=(by omega);have l7:w4.heap.size<w5.heap.size:=(by omega);have l8:w.heap.size<w5.heap.size:=(by omega);have B5:Hid (Below w4.heap.size w4 w5):=(hB5);have hr0:r[0]?=some (Mt.gt r 0):=(by unfold Mt.gt;rw[lH,lK (by rw[HR.out];omega)];rfl);have c90:=(pJ R1.out 0 _ hr0);have z90:=(dD R1.out 0);have c00:=(pJ P0.out 0 _ h0);have z00:=(dD P0.out 0);clear r1 r2 r3 r4 hB5)|(refine zEn (by rfl) (.tmp 38) (by rfl) w4.heap.size (by rfl) r HR.out R1.out ?_)|(refine zDy (by rfl) (.tmp 40) (.tmp 39) (by rfl) w.heap.size s r HS.out HR.out (by rfl) (by rfl) (by exact P0.out) ?_;intro w8 r1 r2 r3 r4;have V0:Hid (w8.heap[w.heap.size]?=some (.cells ((Mt.zAy s r).map (Value.int .i64)).toArray 139 (0,0))):=(r1);have V2:Hid (w8.heap[w.heap.size+1+1]?=some zBn):=((r2 _ (by omega)).trans P2.out);have y8:=(zC (((r2 _ (by omega)).trans (B5.out.block _ (by omega))).trans Q1.out)).1;have hw0:(Mt.zAy s r)[0]?=some (pc:Int):=(by have:=Mt.nQ s r HS.out HR.out 0;rw[if_neg (by omega)]at this;unfold Mt.gt at this;rw[lH,lH,h0]at this;rw[lK (by rw[Mt.dS s r HS.out HR.out];omega)]at this |-;simpa using this);have c80:=(pJ r1 0 _ hw0);have z80:=(dD r1 0);have l88:w.heap.size<w8.heap.size:=(by omega);have l89:w.heap.size+1<w8.heap.size:=(by omega);have E8:Hid (w8.heap.size=w5.heap.size/\(∀k,k≠w.heap.size->w8.heap[k]?=w5.heap[k]?)/\Below w.heap.size w5 w8):=(⟨r3,r2,r4 _ (lG _)⟩);clear r1 r2 r3 r4)|(refine zP (by rfl) (.tmp 4) (by rfl) w.heap.size (by rfl) (by exact yV V0.out 0 _) (by simp[Mt.dS s r HS.out HR.out]) ?_)|(refine zL (by rfl) (.tmp 6) (.tmp 44) (by rfl) (w.heap.size+1+1) _ (by rfl) (by rfl) (by exact(Below.heap_setCell _ _ _ _ (by show w.heap.size+1+1≠w.heap.size;omega)).trans V2.out) (by rfl) (by simp[Mt.dS s r HS.out HR.out]) (by simp only[qF];exact qD _) ?_;intro w6 r1 r2 r3 r4) | fail)
 have s6:w.heap.size<=w6.heap.size:=by
  have:=E8.out.1;rw[r3];simp[World.setCell];omega
 have o6:∀k,k<w.heap.size->w6.heap[k]?=w5.heap[k]?:=λk hk=>by
  rw[r2 k (by omega),Below.heap_setCell _ _ _ _ (by show k≠w.heap.size;omega)];exact E8.out.2.1 k (by omega)
 have hK:Keep wb gk w w6:=by
  have k5:=K4.out.trans (Keep.below B5.out);have b6:=r4 w.heap.size (by omega);have e8:=E8.out.2.2;exact⟨(b6.os.trans e8.os).trans k5.os,(b6.tape.trans e8.tape).trans k5.tape,(b6.output.trans e8.output).trans k5.output,s6,λi hi h1 h2=>(o6 i hi).trans (k5.block i hi h1 h2)⟩
 have hW:zU w6 wb gc gi ga gk cc ci ca ck c zK zTM ar zA zTN zX pW false:=by
  have w5W:=W4.out.below B5.out;have hx:=HLT.out;exact w5W.mem (o6 _ (by omega)) (o6 _ (by omega)) (o6 _ (by omega)) (o6 _ (by omega)) (o6 _ (by omega))
 refine bodyPost_ret (pU rfl (by rfl) r1 (by simp[Mt.dS s r HS.out HR.out])) rfl ⟨?_,hK,hW⟩;simp only[qF];rfl
theorem zH0{w:World}{wb gc gi ga gk cc ci ca ck:Nat}{c:List Mt.zTG}{zK:ByteArray}{zTM:List Bool}{ar:List Int}{zA:Int}{kn zTN:List Bool}{zD qE zX pW:Int}{qI:Bool}
  (h:zU w wb gc gi ga gk cc ci ca ck c zK zTM ar zA kn zD qE qI) (s r:List Int) (ok:Bool) (x:Mt.zTG) (pc:Nat) (h0:s[0]?=some (pc:Int)) (hs:s.length=44) (hr:r.length=44) (hpc:pc<=300) (o0:(x.x==0)=false) (o1:(x.x==1)=false)
  (KL:Hid (∀z:World,zU z wb gc gi ga gk cc ci ca ck c zK zTM ar zA kn zD qE qI->Calls Tryz.prog 82 #[.pointer (some ⟨wb,0,none⟩),stV (s.set 0 ((pc:Int)+1))] z λe w'=>e=.returned (.tuple #[stV r,.bool ok])/\Keep wb gk z w'/\zU w' wb gc gi ga gk cc ci ca ck c zK zTM ar zA zTN zX pW false)) :
  Calls Tryz.prog 117 #[.pointer (some ⟨wb,0,none⟩),stV s,zAT x] w λe w'=>e=.returned (.tuple #[stV (s.set 0 x.y),.bool (!ok)])/\Keep wb gk w w'/\zU w' wb gc gi ga gk cc ci ca ck c zK zTM ar zA zTN zX pW false:=by
 have HS:Hid (s.length=44):=hs;have HR:Hid (r.length=44):=hr;have HW:Hid (zU w wb gc gi ga gk cc ci ca ck c zK zTM ar zA kn zD qE qI):=h;have zTI:=h.lt;have lwb:wb<w.heap.size:=zTI.1;have lgk:gk<w.heap.size:=zTI.2.2.2.2;have HLT:Hid (wb<w.heap.size/\gc<w.heap.size/\gi<w.heap.size/\ga<w.heap.size/\gk<w.heap.size):=zTI;clear hs h hr zTI;unfold stV zAT;have hz:=dB;go_enter Tryz.func117,Tryz.ntmps117
 go_wp2_with (first|(refine zP (by rfl) (.tmp 4) (by rfl) w.heap.size (by rfl) (by exact nC _ _ _ _) (by simp[HS.out]) ?_)|(refine zL (by rfl) (.tmp 8) (.tmp 11) (by rfl) (w.heap.size+1+1+1) _ (by rfl) (by rfl) (by exact zIR _ _ _ _ _) (by rfl) (by simp[HS.out]) (qD _) ?_;intro w2 r1 r2 r3 r4;have c0:w2.cell? ⟨w.heap.size+1+1+1,0,none⟩=some (.int .i64 (pc:Int)):=(pJ r1 0 _ h0);have z0:=(dD r1 0);have R1:Hid (w2.heap[w.heap.size+1+1+1]?=some (.cells (s.map (Value.int .i64)).toArray 139 (0,0))):=(r1);have r3':w2.heap.size=w.heap.size+1+1+1+1:=(by simpa using r3);have R2:Hid (w2.heap[w.heap.size]?=some (.cells (s.map (Value.int .i64)).toArray 139 (0,0))/\w2.heap[w.heap.size+1+1]?=some zBn):=(⟨(r2 _ (by omega)).trans (zFm _ _ _ _ _),(r2 _ (by omega)).trans (zFo _ _ _ _ _)⟩);have R5:Hid (w2.heap[w.heap.size+1]?=some (.cells #[.int .i64 x.op,.int .i64 x.x,.int .i64 x.y,.string ⟨x.set.toArray⟩] 48 (0,0))):=((r2 _ (by omega)).trans (zFn _ _ _ _ _));have hB:Below w.heap.size w w2:=((zIS _ _ _ _ _).trans (r4 _ (by omega)));clear r1 r2 r3 r4)|(refine zP (by rfl) (.tmp 8) (by rfl) (w.heap.size+1+1+1) (by rfl) (by exact yV R1.out 0 _) (by simp[HS.out]) ?_) | fail)
 generalize hw3:w2.setCell ⟨w.heap.size+1+1+1,0,none⟩ (.int .i64 ((pc:Int)+1))=w3 at *;have hB3:Below w.heap.size w w3:=by rw[<-hw3];exact hB.setCell (p:=⟨w.heap.size+1+1+1,0,none⟩) (by show w.heap.size<=w.heap.size+1+1+1;omega) _
 have o3:∀k,k≠w.heap.size+1+1+1->w3.heap[k]?=w2.heap[k]?:=λk hk=>by rw[<-hw3];exact Below.heap_setCell _ _ _ _ hk
 have s3:w3.heap.size=w.heap.size+1+1+1+1:=by rw[<-hw3];simpa[World.setCell]using r3'
 have q0:w3.heap[w.heap.size]?=some (.cells (s.map (Value.int .i64)).toArray 139 (0,0)):=(o3 _ (by omega)).trans R2.out.1;have q2:w3.heap[w.heap.size+1+1]?=some zBn:=(o3 _ (by omega)).trans R2.out.2;have q1:w3.heap[w.heap.size+1]?=some (.cells #[.int .i64 x.op,.int .i64 x.x,.int .i64 x.y,.string ⟨x.set.toArray⟩] 48 (0,0)):=(o3 _ (by omega)).trans R5.out;clear hw3 o3 R1 R2 R5 c0 z0 hB r3' w2;rw[qF];refine(KL.out w3 (HW.out.below hB3)).mono ?_;rintro e w4 ⟨rfl,hk4,hW4⟩;have s4:w.heap.size+1+1+1+1<=w4.heap.size:=by rw[<-s3];exact hk4.size
 have Q0:Hid (w4.heap[w.heap.size]?=some (.cells (s.map (Value.int .i64)).toArray 139 (0,0))):=(hk4.blk _ (by omega) (by omega) (by omega)).trans q0;have Q2:Hid (w4.heap[w.heap.size+1+1]?=some zBn):=(hk4.blk _ (by omega) (by omega) (by omega)).trans q2;have Q1:Hid (w4.heap[w.heap.size+1]?=some (.cells #[.int .i64 x.op,.int .i64 x.x,.int .i64 x.y,.string ⟨x.set.toArray⟩] 48 (0,0))):=(hk4.blk _ (by omega) (by omega) (by omega)).trans q1;have K4:Hid (Keep wb gk w w4):=(Keep.below hB3).trans hk4;have W4:Hid (zU w4 wb gc gi ga gk cc ci ca ck c zK zTM ar zA zTN zX pW false):=hW4;clear KL HW hB3 s3 q0 q1 q2 hk4 hW4;go_wp2_with (first|(refine zL (by rfl) (.tmp 9) (.tmp 20) (by rfl) w4.heap.size (r.map (Value.int .i64)).toArray (by rfl) (by rfl) (by exact heap_alloc_new _ _) (by rfl) (by simp[HR.out]) (qD _) ?_;intro w5 r1 r2 r3 r4;have hB5:Below w4.heap.size w4 w5:=(((Below.refl _ _).alloc (lG _) _).trans (r4 _ (lG _)));have c8:w5.cell? ⟨wb,8,none⟩=some (.bool false):=((zC (W4.out.below hB5).cell).1 8);have y1:=(zC ((hB5.block _ (by omega)).trans Q1.out)).1;have P0:Hid (w5.heap[w.heap.size]?=some (.cells (s.map (Value.int .i64)).toArray 139 (0,0))):=((hB5.block _ (by omega)).trans Q0.out);have P2:Hid (w5.heap[w.heap.size+1+1]?=some zBn):=((hB5.block _ (by omega)).trans Q2.out);have R1:Hid (w5.heap[w4.heap.size]?=some (.cells (r.map (Value.int .i64)).toArray 139 (0,0))):=(r1);have s5:w5.heap.size=w4.heap.size+1:=(by simpa using r3);have l5:wb<w5.heap.size:=(by omega);have l6:w.heap.size+1<w5.heap.size:=(by omega);have l7:w4.heap.size<w5.heap.size:=(by omega);have l8:w.heap.size<w5.heap.size:=(by omega);have B5:Hid (Below w4.heap.size w4 w5):=(hB5);have hr0:r[0]?=some (Mt.gt r 0):=(by unfold Mt.gt;rw[lH,lK (by rw[HR.out];omega)];rfl);have c90:=(pJ R1.out 0 _ hr0);have z90:=(dD R1.out 0);have c00:=(pJ P0.out 0 _ h0);have z00:=(dD P0.out 0);clear r1 r2 r3 r4 hB5)|(refine zP (by rfl) (.tmp 4) (by rfl) w.heap.size (by rfl) (by exact yV P0.out 0 _) (by simp[HS.out]) ?_)|(refine zL (by rfl) (.tmp 6) (.tmp 49) (by rfl) (w.heap.size+1+1) _ (by rfl) (by rfl) (by exact(Below.heap_setCell _ _ _ _ (by show w.heap.size+1+1≠w.heap.size;omega)).trans P2.out) (by rfl) (by simp[HS.out]) (by simp only[qF];exact qD _) ?_;intro w6 r1 r2 r3 r4) | fail)
 have s6:w.heap.size<=w6.heap.size:=by
  rw[r3];simp[World.setCell];omega
 have o6:∀k,k<w.heap.size->w6.heap[k]?=w5.heap[k]?:=λk hk=>by
  rw[r2 k (by omega),Below.heap_setCell _ _ _ _ (by show k≠w.heap.size;omega)]
 have hK:Keep wb gk w w6:=by
  have k5:=K4.out.trans (Keep.below B5.out);have b6:=r4 w.heap.size (by omega);exact⟨b6.os.trans k5.os,b6.tape.trans k5.tape,b6.output.trans k5.output,s6,λi hi h1 h2=>(o6 i hi).trans (k5.block i hi h1 h2)⟩
 have hW:zU w6 wb gc gi ga gk cc ci ca ck c zK zTM ar zA zTN zX pW false:=by
  have w5W:=W4.out.below B5.out;have hx:=HLT.out;exact w5W.mem (o6 _ (by omega)) (o6 _ (by omega)) (o6 _ (by omega)) (o6 _ (by omega)) (o6 _ (by omega))
 refine bodyPost_ret (pU rfl (by rfl) r1 (by simp[HS.out])) rfl ⟨?_,hK,hW⟩;simp only[qF];rfl
structure zDz (c:List Mt.zTG) (zK:ByteArray) (ar:List Int):Prop where
 l:c.length<=300
 t:zK.size<=60
 ok:Mt.codeOk c
 ar0:∀p,p<c.length->0<=ar.getD p 0/\ar.getD p 0<=300
 ar1:∀p,p+1=c.length->ar.getD p 0<=11
theorem zBo{s:List Int}(h:s.length=44)(i:Nat)(hi:i<44):s[i]?=some (Mt.gt s i):=by
 unfold Mt.gt;rw[lH,lK (by omega)];rfl
theorem zFp{L T:Nat}{s:List Int}(h:Mt.Good L T s):s[0]?=some ((Mt.jX s:Nat):Int)/\s[1]?=some ((Mt.pV s:Nat):Int)/\((Mt.jX s:Nat):Int)=Mt.gt s 0/\((Mt.pV s:Nat):Int)=Mt.gt s 1/\Mt.jX s<L/\Mt.pV s<=T:=by
 have h0:=h.pc0;have h1:=h.pc1;have h2:=h.zNy;have h3:=h.pos1;have e0:((Mt.jX s:Nat):Int)=Mt.gt s 0:=by unfold Mt.jX;omega
 have e1:((Mt.pV s:Nat):Int)=Mt.gt s 1:=by unfold Mt.pV;omega
 exact⟨by rw[e0];exact zBo h.len 0 (by omega),by rw[e1];exact zBo h.len 1 (by omega),e0,e1,by omega,by omega⟩
section
variable {w:World} {wb gc gi ga gk cc ci ca ck:Nat} {c:List Mt.zTG} {zK:ByteArray} {zTM:List Bool} {ar:List Int} {zA:Int} {kn:List Bool} {zD qE:Int} {qI:Bool}
theorem zNB(h:zU w wb gc gi ga gk cc ci ca ck c zK zTM ar zA kn zD qE qI)(hE:zDz c zK ar)(s:List Int)(hs:Mt.Good c.length zK.size s)(hkn:kn.length=c.length*(zK.size+1)*12)(hr:0<=zD/\zD<=5000) :
  Calls Tryz.prog 116 #[.pointer (some ⟨wb,0,none⟩),stV s] w λe w'=>e=.returned (.bool (Mt.Env.dead ⟨c,zK,zTM,ar⟩ s kn))/\Keep wb gk w w'/\zU w' wb gc gi ga gk cc ci ca ck c zK zTM ar zA (Mt.Env.zTN ⟨c,zK,zTM,ar⟩ s kn zD) (Mt.Env.zX ⟨c,zK,zTM,ar⟩ s kn zD) qE qI:=by
 obtain⟨h0,h1,e0,e1,l0,l1⟩:=zFp hs;have ha:=hE.ar0 _ l0;cases hin:zTM.getD (Mt.jX s) false with
 | false =>
  refine(zNn h s _ h0 l0 hE.l hin).mono ?_;rintro e w' ⟨rfl,hk,hb⟩;have hi:Mt.Env.isIn ⟨c,zK,zTM,ar⟩ s=false:=hin;refine⟨?_,hk,?_⟩
  ·unfold Mt.Env.dead;rw[hi];rfl
  ·unfold Mt.Env.zTN Mt.Env.zX;rw[hi];exact h.below hb
 | true =>
  refine(zO7 h s _ _ (ar.getD (Mt.jX s) 0).toNat h0 h1 hs.len l0 l1 hE.l hE.t hin (by omega) (by omega) (λe=>by have:=hE.ar1 _ e;omega) hkn hr.1 hr.2).mono ?_;rintro e w' ⟨rfl,hk,hb⟩;have hi:Mt.Env.isIn ⟨c,zK,zTM,ar⟩ s=true:=hin;refine⟨?_,hk,?_⟩
  ·unfold Mt.Env.dead;rw[hi];rfl
  ·unfold Mt.Env.zTN Mt.Env.zX;rw[hi];exact hb
theorem zPc(h:zU w wb gc gi ga gk cc ci ca ck c zK zTM ar zA kn zD qE qI)(hE:zDz c zK ar)(s:List Int)(hs:Mt.Good c.length zK.size s)(x:Mt.zTG)(hx:Mt.zHX c (Mt.jX s) x) :
  Calls Tryz.prog 118 #[.pointer (some ⟨wb,0,none⟩),stV s,zAT x] w λe w'=>e=.returned (.tuple #[stV (Mt.vC zK s x).1,.bool (Mt.vC zK s x).2])/\Below w.heap.size w w':=by
 obtain⟨h0,h1,e0,e1,l0,l1⟩:=zFp hs;obtain⟨i2,i3,i4,i5,i6,i11,i13,iS⟩:=hx;have hl:=hE.l;have ht:=hE.t;by_cases o1:x.op=1
 ·have b1:(x.op==1)=true:=by simpa using o1
  unfold Mt.vC;rw[if_pos o1];dsimp only;rw[<-e0,<-e1];by_cases hp:Mt.pV s<zK.size
  ·have hb:Mt.byI zK ((Mt.pV s:Nat):Int).toNat=((zK[Mt.pV s]'hp).toNat:Int):=by unfold Mt.byI;rw[dif_pos (by omega)];rfl
   rw[if_pos (by omega),hb];exact one_byte h s x _ _ h0 h1 hs.len (by omega) l1 ht b1 hp iS
  ·rw[if_neg (by omega)];exact zNw h s x _ _ h0 h1 hs.len (by omega) l1 ht b1 hp
 have b1:(x.op==1)=false:=by simpa using o1
 by_cases o3:x.op=3
 ·have b3:(x.op==3)=true:=by simpa using o3
  unfold Mt.vC;rw[if_neg o1,if_pos o3];exact zNq h s x _ _ h0 h1 hs.len b1 b3
 have b3:(x.op==3)=false:=by simpa using o3
 by_cases o4:x.op=4
 ·have b4:(x.op==4)=true:=by simpa using o4
  unfold Mt.vC;rw[if_neg o1,if_neg o3,if_pos o4];dsimp only;rw[<-e0,<-e1];have:=i4 o4;exact zNt h s x _ _ h0 h1 hs.len (by omega) l1 ht b1 b3 b4 this.1 this.2
 have b4:(x.op==4)=false:=by simpa using o4
 by_cases o5:x.op=5
 ·have b5:(x.op==5)=true:=by simpa using o5
  unfold Mt.vC;rw[if_neg o1,if_neg o3,if_neg o4,if_pos o5];dsimp only;rw[<-e1];have:=i5 o5;exact zLm h s x _ _ h0 h1 hs.len (by omega) l1 ht b1 b3 b4 b5 this.2.2.1 this.2.2.2
 have b5:(x.op==5)=false:=by simpa using o5
 by_cases o6:x.op=6
 ·have b6:(x.op==6)=true:=by simpa using o6
  unfold Mt.vC;rw[if_neg o1,if_neg o3,if_neg o4,if_neg o5,if_pos o6];dsimp only;rw[<-e0,<-e1];have:=i6 (.inl o6);exact zNu h s x _ _ h0 h1 hs.len (by omega) l1 ht b1 b3 b4 b5 b6 this.1 this.2
 have b6:(x.op==6)=false:=by simpa using o6
 by_cases o7:x.op=7
 ·have b7:(x.op==7)=true:=by simpa using o7
  unfold Mt.vC;rw[if_neg o1,if_neg o3,if_neg o4,if_neg o5,if_neg o6,if_pos o7];dsimp only;rw[<-e0,<-e1];have:=i6 (.inr (.inl o7));exact zLn h s x _ _ h0 h1 hs.len (by omega) l1 ht b1 b3 b4 b5 b6 b7 this.1 this.2
 have b7:(x.op==7)=false:=by simpa using o7
 by_cases o8:x.op=8
 ·have b8:(x.op==8)=true:=by simpa using o8
  have hk:=i6 (.inr (.inr o8))
  have hoP:Mt.vC zK s x=Mt.tZ zK s x.x:=by
   unfold Mt.vC;rw[if_neg o1,if_neg o3,if_neg o4,if_neg o5,if_neg o6,if_neg o7,if_pos o8]
  have hlen:(Mt.tZ zK s x.x).1.length=44:=by rw[<-hoP,Mt.zFl];exact hs.len
  rw[hoP];refine zNx h s _ _ x _ _ h0 h1 hs.len hlen (by omega) l1 ht ?_ b1 b3 b4 b5 b6 b7 b8;intro z hz;have hpl:=hs.place x.x.toNat (by omega);rw[show 2*x.x.toNat=(2*x.x).toNat by omega]at hpl;rw[show(2*x.x).toNat+1=(2*x.x+1).toNat by omega]at hpl;have ga:=zBo hs.len (2+(2*x.x).toNat) (by omega);have gb:=zBo hs.len (2+(2*x.x+1).toNat) (by omega);unfold Mt.tZ;by_cases hneg:Mt.gt s (2+(2*x.x).toNat)<0
  ·rw[if_pos hneg];exact zLo hz s x.x _ _ h0 h1 hs.len (by omega) l1 ht hk.1 hk.2 _ _ ga gb (by simpa using hneg)
  ·rw[if_neg hneg];have hpl':=hpl.resolve_left hneg;have ea:(((Mt.gt s (2+(2*x.x).toNat)).toNat:Nat):Int)=Mt.gt s (2+(2*x.x).toNat):=by omega
   have eb:(((Mt.gt s (2+(2*x.x+1).toNat)).toNat:Nat):Int)=Mt.gt s (2+(2*x.x+1).toNat):=by omega
   have ga':s[2+(2*x.x).toNat]?=some (((Mt.gt s (2+(2*x.x).toNat)).toNat:Nat):Int):=by rw[ea];exact ga
   have gb':s[2+(2*x.x+1).toNat]?=some (((Mt.gt s (2+(2*x.x+1).toNat)).toNat:Nat):Int):=by rw[eb];exact gb
   by_cases hlong:(zK.size:Int)<Mt.gt s 1+(Mt.gt s (2+(2*x.x+1).toNat)-Mt.gt s (2+(2*x.x).toNat))
   ·rw[if_pos hlong];exact zLp hz s x.x _ _ h0 h1 hs.len (by omega) l1 ht hk.1 hk.2 _ _ ga' gb' (by omega) (by omega) (by omega)
   ·rw[if_neg hlong];have:=zLq hz s x.x _ _ h0 h1 hs.len (by omega) l1 ht hk.1 hk.2 _ _ ga' gb' (by omega) (by omega) (by omega);rw[ea,eb,e0,e1]at this;have e1':(Mt.gt s 1).toNat=Mt.pV s:=rfl;dsimp only;rw[e1'];exact this
 have b8:(x.op==8)=false:=by simpa using o8
 by_cases o9:x.op=9
 ·have b9:(x.op==9)=true:=by simpa using o9
  unfold Mt.vC;rw[if_neg o1,if_neg o3,if_neg o4,if_neg o5,if_neg o6,if_neg o7,if_neg o8,if_pos o9];dsimp only;rw[<-e0,<-e1];exact zNr h s x _ _ h0 h1 hs.len (by omega) l1 ht b1 b3 b4 b5 b6 b7 b8 b9
 have b9:(x.op==9)=false:=by simpa using o9
 by_cases o10:x.op=10
 ·have b10:(x.op==10)=true:=by simpa using o10
  unfold Mt.vC;rw[if_neg o1,if_neg o3,if_neg o4,if_neg o5,if_neg o6,if_neg o7,if_neg o8,if_neg o9,if_pos o10];dsimp only;rw[<-e0,<-e1];exact zNv h s x _ _ h0 h1 hs.len (by omega) l1 ht b1 b3 b4 b5 b6 b7 b8 b9 b10
 have b10:(x.op==10)=false:=by simpa using o10
 unfold Mt.vC;rw[if_neg o1,if_neg o3,if_neg o4,if_neg o5,if_neg o6,if_neg o7,if_neg o8,if_neg o9,if_neg o10];dsimp only;rw[<-e0];exact zNs h s x _ _ h0 h1 hs.len (by omega) l1 ht b1 b3 b4 b5 b6 b7 b8 b9 b10
theorem zLs{zTN:List Bool}{zX pW:Int}{ov:Bool}(h:zU w wb gc gi ga gk cc ci ca ck c zK zTM ar zA kn zD qE qI)(hE:zDz c zK ar)(s r s':List Int)(ok b':Bool)(x:Mt.zTG)(hs:Mt.Good c.length zK.size s)(hr:r.length=44)
  (h1:ov=true->s'=s/\b'=false) (h2:ov=false->(s',b')=Mt.yU s x r ok)
  (KL:∀z:World,zU z wb gc gi ga gk cc ci ca ck c zK zTM ar zA kn zD qE qI->Calls Tryz.prog 82 #[.pointer (some ⟨wb,0,none⟩),stV (s.set 0 (Mt.gt s 0+1))] z λe w'=>e=.returned (.tuple #[stV r,.bool ok])/\Keep wb gk z w'/\zU w' wb gc gi ga gk cc ci ca ck c zK zTM ar zA zTN zX pW ov) :
  Calls Tryz.prog 117 #[.pointer (some ⟨wb,0,none⟩),stV s,zAT x] w λe w'=>e=.returned (.tuple #[stV s',.bool b'])/\Keep wb gk w w'/\zU w' wb gc gi ga gk cc ci ca ck c zK zTM ar zA zTN zX pW ov:=by
 obtain⟨h0,_,e0,e1,l0,l1⟩:=zFp hs;have hl:=hE.l;rw[<-e0]at KL;cases ov with
 | true =>
  obtain⟨rfl,rfl⟩:=h1 rfl;exact zJV h _ r ok x _ h0 hs.len hr (by omega) KL
 | false =>
  have h3:=h2 rfl;unfold Mt.yU at h3;by_cases o0:x.x=0
  ·rw[if_pos o0]at h3;obtain⟨rfl,rfl⟩:=Prod.mk.inj h3;exact zGE h s r b' x _ h0 hs.len hr (by omega) (by simpa using o0) KL
  rw[if_neg o0]at h3;by_cases o1:x.x=1
  ·rw[if_pos o1]at h3;obtain⟨rfl,rfl⟩:=Prod.mk.inj h3;exact zHZ h s r b' x _ h0 hs.len hr (by omega) (by simpa using o0) (by simpa using o1) KL
  rw[if_neg o1]at h3;obtain⟨rfl,rfl⟩:=Prod.mk.inj h3;exact zH0 h s r ok x _ h0 hs.len hr (by omega) (by simpa using o0) (by simpa using o1) KL
end
