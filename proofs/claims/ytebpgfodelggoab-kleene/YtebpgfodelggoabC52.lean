import Derived.Test.YtebpgfodelggoabD1
import Derived.Test.YtebpgfodelggoabC51
import Derived.Test.YtebpgfodelggoabC49
set_option linter.unusedVariables false
set_option linter.unusedSimpArgs false
set_option maxRecDepth 100000
set_option maxHeartbeats 8000000
namespace Go.Proofs.Ytebpgfodelggoab
open Go.RowKit
structure Signs (w:World) (ao:Option Addr) (n:Nat) (f:Nat→Int):Prop where
 num:∀ i,i<n→I64 (f i)
 at':0<n→∃ b off,ao=some ⟨b,off,none⟩∧b<w.heap.size∧∀ i,i<n→w.cell? ⟨b,off+i,none⟩=some (.int .i64 (f i))
theorem below_le {B:Nat} {a b:World} (h:Below B a b) (hb:B=a.heap.size):B≤b.heap.size:=by rw [hb];exact h.size
theorem Kleene_any (ao:Option Addr) (n scap:Nat) (f:Nat→Int) (t:ByteArray) (w:World) (hn:n≤maxLen) (hs:Signs w ao n f) (ht:t.size≤maxLen) :
  Calls Try.prog 6 #[.slice ao n scap,.string t] w fun e w'=>e=.returned (.bool true)∧Below w.heap.size w w':=by
 have st:=someB_size t 10
 have K0:Hid (∀ z:World,Calls Try.prog 8 #[.string t,.int .i64 10] z fun e w'=>e=.returned (.string (someB t 10))∧z=w'):=fun z=>some_any t 10 z ht (by omega)
 generalize someB t 10=T at *
 have ht10:=st.1
 have HSG:Hid (Signs w ao n f):=hs
 have KB:Hid (∀ (sign:Int) (v:Value) (l:List Sh) (z:World),I64 sign→w.heap.size≤z.heap.size→ownSh z w.heap.size v l→l.length≤100→StackOk T l→(l=[]→v=.slice none 0 0)→Calls Try.prog 23 #[v,.int .i64 sign,.string T] z fun e w'=>Leaves T w.heap.size l (pickI sign 9≤2∨l≠[]) z e w'):=fun sign v l z h1 h2 h3 h4 h5 h6=>built_any T sign w.heap.size v l z ht10 h1 h2 h3 h4 h5 h6
 generalize hbase:w.heap.size=base at *
 have hn':(n:Int)≤9223372036854775807:=by unfold maxLen at hn;omega
 clear hs ht st
 go_enter Try.func6,Try.ntmps6
 go_wp2_with fail
 refine (K0.out _).mono ?_
 rintro e w' ⟨rfl,rfl⟩
 go_wp2_with fail
 go_loopw [5,6] (fun vl vi wr=>∃ (k:Nat) (l:List Sh),k≤n∧k≤64∧vi=.int .i64 k∧l.length≤k∧Hid (ownSh wr base vl l)∧Hid (StackOk T l)∧Hid (l=[]→vl=.slice none 0 0)∧Hid (Below base w wr)) (fun _ vi _=>64-(intOf vi).toNat)
 case atStart=>exact ⟨0,[],by omega,by omega,rfl,by simp,World.ownsRow_nil _ _ _ _,fun s h=>by simp at h,fun _=>rfl,Below.refl _ _⟩
 case round =>
  obtain ⟨k,l,hk,hk64,rfl,hl,HOW,HOK,HV,HB⟩:=hrel
  have hwr:base≤wr.heap.size:=below_le HB.out hbase.symm
  by_cases hlt:k<n∧k<64
  ·have d1:decide ((k:Int)<(n:Int))=true:=by rw [decide_eq_true_eq];omega
   have d2:decide ((k:Int)<64)=true:=by rw [decide_eq_true_eq];omega
   have d3:(k:Int)<(n:Int):=by omega
   obtain ⟨b,off,rfl,hb,hc⟩:=HSG.out.at' (by omega)
   have c0:wr.cell? ⟨b,off+k,none⟩=some (.int .i64 (f k)):=(HB.out.cell (by show b<base;omega)).trans (hc k hlt.1)
   have KK:Hid (Calls Try.prog 23 #[u5,.int .i64 (f k),.string T] wr fun e w'=>Leaves T base l (pickI (f k) 9≤2∨l≠[]) wr e w'):=KB.out (f k) u5 l wr (HSG.out.num k hlt.1) hwr HOW.out (by omega) HOK.out HV.out
   clear hc
   go_wp2_with fail
   refine KK.out.mono ?_
   rintro e w2 ⟨v2,l2,rfl,h1,h2,h3,h4,h5,h6⟩
   have H1:Hid _:=h1
   have H2:Hid (StackOk T l2):=h2
   have H5:Hid (l2=[]→v2=.slice none 0 0):=h5
   have H6:Hid (Below base w w2):=HB.out.trans h6
   clear h1 h2 h4 h5 h6
   go_wp2_with fail
   go_roundw
   case rel=>exact ⟨k+1,l2,by omega,by omega,by go_num,by omega,H1,H2,H5,H6⟩
   case measure=>simp [intOf];omega
  ·have hd:(¬ (k:Int)<(n:Int))∨((k:Int)<(n:Int)∧¬ (k:Int)<64):=by omega
   go_upto_region 4 with fail
   go_cut [24] (fun vb wx=>vb=.bool false∧wr=wx)
   case first =>
    rcases hd with d1 | ⟨d1,d2⟩
    ·have g1:decide ((k:Int)<(n:Int))=false:=by rw [decide_eq_false_iff_not];exact d1
     go_wp2_with fail
     go_meet
     case rel=>exact ⟨rfl,rfl⟩
    ·have g1:decide ((k:Int)<(n:Int))=true:=by rw [decide_eq_true_eq];exact d1
     have g2:decide ((k:Int)<64)=false:=by rw [decide_eq_false_iff_not];exact d2
     go_wp2_with fail
     go_meet
     case rel=>first | exact ⟨rfl,rfl⟩ | exact ⟨by simp;omega,rfl⟩
   case rest =>
    obtain ⟨rfl,rfl⟩:=hcut
    by_cases hemp:l=[]
    ·have hv0:=HV.out hemp
     subst hv0
     have KK:Hid (Calls Try.prog 23 #[.slice none 0 0,.int .i64 0,.string T] wr fun e w'=>Leaves T base l (pickI 0 9≤2∨l≠[]) wr e w'):=KB.out 0 _ l wr (by unfold I64;omega) hwr HOW.out (by omega) HOK.out HV.out
     clear HOW HOK HV
     go_wp2_with fail
     refine KK.out.mono ?_
     rintro e w3 ⟨v2,l,rfl,h1,h2,h3,h4,h5,h6⟩
     have HOW:Hid (ownSh w3 base v2 l):=h1
     have HOK:Hid (StackOk T l):=h2
     have HB3:Hid (Below base w w3):=HB.out.trans h6
     have hpos:0<l.length:=List.length_pos_iff.2 (h4 (.inl (by decide)))
     have hl3:l.length≤65:=by omega
     have hwr:base≤w3.heap.size:=below_le HB3.out hbase.symm
     clear h1 h2 h3 h4 h5 h6 KK KB HB
     obtain ⟨l1,x,rfl⟩:=last_split l hpos
     have hx:ShOk T x:=HOK.out x (by simp)
     obtain ⟨g,cap,hv,hg0,hg,hc1,hc2,hr,_⟩:=own_form HOW.out hpos
     have hlen:(l1++[x]).length=l1.length+1:=by simp
     rw [hlen] at hv hc1
     subst hv
     have HR:Hid (w3.rangeAt g (l1.length*123) x.L):=by
      have:=hr l1.length (by simp)
      show w3.rangeAt _ _ _
      simpa using this
     have HKO:Hid (KOk T x.T (Mt.findR x.p T 0 1 0 5000 10000)):=kleene_ok T x hx ht10
     have hxp:x.p.size≤48:=by
      obtain ⟨y,hp,_,_,_,h48,_⟩:=hx
      rw [hp,Mt.bp_size];exact h48
     have HI:Hid ((Try.prog.info? 57).map (·.size)=some x.L.length):=by show _=_;rw [Try.sizeSh,Sh.L_len]
     have HX:Hid (x.L.toArray=x.A):=Sh.arr x
     have KF:Hid (∀ z:World,Calls Try.prog 11 #[.string x.p,.string T,.int .i64 0,.agg #[.int .i64 1,.int .i64 0,.int .i64 5000,.int .i64 10000]] z fun e w'=>e=.returned (.tuple #[.agg (fpA (Mt.findR x.p T 0 1 0 5000 10000).1),.int .i64 (Mt.findR x.p T 0 1 0 5000 10000).2])∧Below z.heap.size z w'):=fun z=>Find_any x.p T 0 1 0 5000 10000 z (by unfold maxLen;omega) (by unfold maxLen;omega)
     generalize Mt.findR x.p T 0 1 0 5000 10000=G at *
     have hlw:l1.length≤100:=by rw [hlen] at hl3;omega
     generalize hN:l1.length=N at *
     have i1:(N:Int)≤100:=by omega
     have e0:((N:Int)+1==0)=false:=by simp;omega
     have i2:((N+1:Nat):Int)≤(cap:Int):=by omega
     have z0:=fpA_size G.1 HKO.out.len
     have a0:=fpA_all G.1
     have HS:Hid (∀ (i j:Int) (z:World),Shown G.1 i j→Calls Try.prog 25 #[.agg (fpA G.1),.int .i64 G.2,.int .i64 i,.int .i64 j] z fun e w'=>e=.returned (.bool true)∧Below z.heap.size z w'):=fun i j z h=>by rw [HKO.out.err];exact shown_true G.1 i j h z
     have HW:Hid (∀ z:World,Calls Try.prog 24 #[.agg (fpA G.1),.int .i64 0] z fun e w'=>e=.returned (.bool true)∧Below z.heap.size z w'):=fun z=>without_true G.1 0 HKO.out.wout z
     clear hr hx HOK HOW hg0
     go_upto_region 10 with (first | (refine wpList_load_mid (by rfl) _ (.tmp 44) (by rfl) g (N*123) (by rfl) x.L _ HR.out Try.underlying57 rfl HI.out ?_;rw [HX.out]) | (refine store_blk 57 123 Try.sizeSh (by rfl) (.tmp 7) (.tmp 45) (by rfl) w3.heap.size x.A (by rfl) (by rfl) (by exact heap_b1 _ _) zero_size (shA_size _ _ _) (shA_all _ _ _) ?_;intro w4 s1 s2 s3 s4))
     have S4:Hid (w4.heap[w3.heap.size]?=some (.cells x.A 57 (0,0))):=s1
     have hm4:w3.heap.size<w4.heap.size:=(Array.getElem?_eq_some_iff.1 s1).1
     have B4:Hid (Below base w w4):=HB3.out.trans ((((Below.refl _ _).alloc (Nat.le_refl _) _).trans (s4 _ (Nat.le_refl _))).mono hwr)
     have c0:w4.cell? ⟨w3.heap.size,0,none⟩=some (.string x.p):=((cell_block s1).1 _).trans (shA_p _ _ _)
     clear s1 s2 s3 s4 HR HI HX HB3
     generalize hm:w3.heap.size=m at *
     go_wp2_with fail
     refine (KF.out _).mono ?_
     rintro e w5 ⟨rfl,hb5⟩
     have S5:Hid (w5.heap[m]?=some (.cells x.A 57 (0,0))):=(hb5.block m hm4).trans S4.out
     have B5:Hid (Below base w w5):=B4.out.trans (hb5.mono (by omega))
     have hm5:m<w5.heap.size:=Nat.lt_of_lt_of_le hm4 hb5.size
     clear hb5 S4 B4 c0 KF
     go_upto_region 11 with (refine store_blk 31 22 Try.sizeFd (by rfl) (.tmp 8) (.tmp 52) (by rfl) w5.heap.size (fpA G.1) (by rfl) (by rfl) (by exact heap_b1 _ _) (by rfl) z0 a0 ?_;intro w6 s1 s2 s3 s4)
     have F6:Hid (w6.heap[w5.heap.size]?=some (.cells (fpA G.1) 31 (0,0))):=s1
     have S6:Hid (w6.heap[m]?=some (.cells x.A 57 (0,0))):=(s2 _ (by omega)).trans ((heap_old _ _ _ hm5).trans S5.out)
     have hf6:w5.heap.size<w6.heap.size:=(Array.getElem?_eq_some_iff.1 s1).1
     have B6:Hid (Below base w w6):=B5.out.trans ((((Below.refl _ _).alloc (Nat.le_refl _) _).trans (s4 _ (Nat.le_refl _))).mono (by omega))
     clear s1 s2 s3 s4 S5 B5 a0
     generalize hmf:w5.heap.size=mf at *
     go_wp2_with (refine load_blk 31 22 Try.underlying31 rfl Try.sizeFd (by rfl) (.tmp 8) (by rfl) mf (by rfl) F6.out z0 ?_)
     refine (HW.out _).mono ?_
     rintro e w7 ⟨rfl,hb7⟩
     have F7:Hid (w7.heap[mf]?=some (.cells (fpA G.1) 31 (0,0))):=(hb7.block mf hf6).trans F6.out
     have S7:Hid (shAt w7 m x.p x.d x.T):=(hb7.block m (by omega)).trans S6.out
     have B7:Hid (Below base w w7):=B6.out.trans (hb7.mono (by omega))
     have hf7:mf<w7.heap.size:=Nat.lt_of_lt_of_le hf6 hb7.size
     clear hb7 F6 S6 B6 HW
     go_wp2_with fail
     go_loopw [11] (fun i wr=>∃ a:Nat,a≤T.size+1∧i=.int .i64 a∧wr=w7∧Hid (∀ q v,q<a→q≤v→v≤T.size→x.T q v=false)) (fun i _=>T.size+1-(intOf i).toNat)
     case atStart=>exact ⟨0,by omega,rfl,rfl,fun q v h=>by omega⟩
     case round =>
      obtain ⟨a,ha,rfl,rfl,HQ⟩:=hrel
      by_cases ha':a≤T.size
      ·have d1:decide ((a:Int)≤(T.size:Int))=true:=by rw [decide_eq_true_eq];omega
       go_wp2_with fail
       go_loopw [12] (fun j wz=>∃ c:Nat,a≤c∧c≤T.size+1∧j=.int .i64 c∧wz=wr∧Hid (∀ v,a≤v→v<c→x.T a v=false)) (fun i _=>T.size+1-(intOf i).toNat)
       case atStart=>exact ⟨a,by omega,by omega,rfl,rfl,fun v h1 h2=>by omega⟩
       case round =>
        obtain ⟨c,hc1,hc2,rfl,rfl,HC⟩:=hrel
        by_cases hc':c≤T.size
        ·have d2:decide ((c:Int)≤(T.size:Int))=true:=by rw [decide_eq_true_eq];omega
         have e1:(a:Int)<11:=by omega
         have e2:(c:Int)<11:=by omega
         have x1:=shAt_cell S7.out (show a≤10 by omega) (show c≤10 by omega)
         cases hbit:x.T a c
         ·rw [hbit] at x1
          have HN:Hid (∀ v,a≤v→v<c+1→x.T a v=false):=fun v h1 h2=>by
           by_cases e:v<c
           ·exact HC.out v h1 e
           ·have:v=c:=by omega
            subst this;exact hbit
          clear hbit HC
          go_wp2_with fail
          go_roundw
          case rel=>exact ⟨c+1,by omega,by omega,by go_num,trivial,HN⟩
          case measure=>simp [intOf];omega
         ·obtain ⟨e,g1,g2,g3,g4,g5⟩:=HKO.out.hit a c hc1 hc' HQ.out hbit
          rw [hbit] at x1
          have G1:Hid (Shown G.1 (a:Int) (e:Int)):=g1
          have x2:=shAt_cell S7.out (show a≤10 by omega) (show e≤10 by omega)
          rw [g4] at x2
          have X2:Hid (wr.cell? ⟨m,2+a*11+e,none⟩=some (.bool true)):=x2
          have x3:wr.cell? ⟨mf,2,none⟩=some (.int .i64 (e:Int)):=((cell_block F7.out).1 2).trans ((fpA_get G.1 HKO.out.len 1 (by omega)).trans (congrArg (fun v=>some (Value.int .i64 v)) g5))
          have d4:decide ((a:Int)≤(e:Int))=true:=by rw [decide_eq_true_eq];omega
          have d5:decide ((e:Int)≤(T.size:Int))=true:=by rw [decide_eq_true_eq];omega
          have e3:(e:Int)<11:=by omega
          clear g1 g4 g5 hbit HC HQ x2
          go_wp2_with (refine load_blk 31 22 Try.underlying31 rfl Try.sizeFd (by rfl) (.tmp 8) (by rfl) mf (by rfl) F7.out z0 ?_)
          refine (HS.out _ _ _ G1.out).mono ?_
          rintro e' w8 ⟨rfl,hb8⟩
          have x4:w8.cell? ⟨m,2+a*11+e,none⟩=some (.bool true):=(hb8.cell (by show m<_;omega)).trans X2.out
          have B8:Hid (Below base w w8):=B7.out.trans (hb8.mono (by omega))
          clear hb8 x1 x3
          go_wp2_with fail
          go_ret
          refine ⟨rfl,?_⟩
          first | exact B8.out | (rw [hbase];exact B8.out)
        ·have d2:decide ((c:Int)≤(T.size:Int))=false:=by rw [decide_eq_false_iff_not];omega
         have HN:Hid (∀ q v,q<a+1→q≤v→v≤T.size→x.T q v=false):=fun q v h1 h2 h3=>by
          by_cases e:q<a
          ·exact HQ.out q v e h2 h3
          ·have:q=a:=by omega
           subst this;exact HC.out v h2 (by omega)
         go_wp2_with fail
         go_roundw
         case rel=>exact ⟨a+1,by omega,by go_num,trivial,HN⟩
         case measure=>simp [intOf];omega
      ·have d1:decide ((a:Int)≤(T.size:Int))=false:=by rw [decide_eq_false_iff_not];omega
       have g1:=HKO.out.miss (fun q v h1 h2=>HQ.out q v (by omega) h1 h2)
       have G1:Hid (Shown G.1 (-1) (-1)):=g1
       clear g1 HQ
       go_wp2_with (refine load_blk 31 22 Try.underlying31 rfl Try.sizeFd (by rfl) (.tmp 8) (by rfl) mf (by rfl) F7.out z0 ?_)
       refine (HS.out _ _ _ G1.out).mono ?_
       rintro e' w8 ⟨rfl,hb8⟩
       have B8:Hid (Below base w w8):=B7.out.trans (hb8.mono (by omega))
       clear hb8
       go_wp2_with fail
       go_ret
       refine ⟨rfl,?_⟩
       first | exact B8.out | (rw [hbase];exact B8.out)
    ·have hpos:0<l.length:=List.length_pos_iff.2 hemp
     have hl3:l.length≤65:=by omega
     have HB3:Hid (Below base w wr):=HB
     clear HV HB KB hemp
     obtain ⟨l1,x,rfl⟩:=last_split l hpos
     have hx:ShOk T x:=HOK.out x (by simp)
     obtain ⟨g,cap,hv,hg0,hg,hc1,hc2,hr,_⟩:=own_form HOW.out hpos
     have hlen:(l1++[x]).length=l1.length+1:=by simp
     rw [hlen] at hv hc1
     subst hv
     have HR:Hid (wr.rangeAt g (l1.length*123) x.L):=by
      have:=hr l1.length (by simp)
      show wr.rangeAt _ _ _
      simpa using this
     have HKO:Hid (KOk T x.T (Mt.findR x.p T 0 1 0 5000 10000)):=kleene_ok T x hx ht10
     have hxp:x.p.size≤48:=by
      obtain ⟨y,hp,_,_,_,h48,_⟩:=hx
      rw [hp,Mt.bp_size];exact h48
     have HI:Hid ((Try.prog.info? 57).map (·.size)=some x.L.length):=by show _=_;rw [Try.sizeSh,Sh.L_len]
     have HX:Hid (x.L.toArray=x.A):=Sh.arr x
     have KF:Hid (∀ z:World,Calls Try.prog 11 #[.string x.p,.string T,.int .i64 0,.agg #[.int .i64 1,.int .i64 0,.int .i64 5000,.int .i64 10000]] z fun e w'=>e=.returned (.tuple #[.agg (fpA (Mt.findR x.p T 0 1 0 5000 10000).1),.int .i64 (Mt.findR x.p T 0 1 0 5000 10000).2])∧Below z.heap.size z w'):=fun z=>Find_any x.p T 0 1 0 5000 10000 z (by unfold maxLen;omega) (by unfold maxLen;omega)
     generalize Mt.findR x.p T 0 1 0 5000 10000=G at *
     have hlw:l1.length≤100:=by rw [hlen] at hl3;omega
     generalize hN:l1.length=N at *
     have i1:(N:Int)≤100:=by omega
     have e0:((N:Int)+1==0)=false:=by simp;omega
     have i2:((N+1:Nat):Int)≤(cap:Int):=by omega
     have z0:=fpA_size G.1 HKO.out.len
     have a0:=fpA_all G.1
     have HS:Hid (∀ (i j:Int) (z:World),Shown G.1 i j→Calls Try.prog 25 #[.agg (fpA G.1),.int .i64 G.2,.int .i64 i,.int .i64 j] z fun e w'=>e=.returned (.bool true)∧Below z.heap.size z w'):=fun i j z h=>by rw [HKO.out.err];exact shown_true G.1 i j h z
     have HW:Hid (∀ z:World,Calls Try.prog 24 #[.agg (fpA G.1),.int .i64 0] z fun e w'=>e=.returned (.bool true)∧Below z.heap.size z w'):=fun z=>without_true G.1 0 HKO.out.wout z
     clear hr hx HOK HOW hg0
     go_upto_region 10 with (first | (refine wpList_load_mid (by rfl) _ (.tmp 44) (by rfl) g (N*123) (by rfl) x.L _ HR.out Try.underlying57 rfl HI.out ?_;rw [HX.out]) | (refine store_blk 57 123 Try.sizeSh (by rfl) (.tmp 7) (.tmp 45) (by rfl) wr.heap.size x.A (by rfl) (by rfl) (by exact heap_b1 _ _) zero_size (shA_size _ _ _) (shA_all _ _ _) ?_;intro w4 s1 s2 s3 s4))
     have S4:Hid (w4.heap[wr.heap.size]?=some (.cells x.A 57 (0,0))):=s1
     have hm4:wr.heap.size<w4.heap.size:=(Array.getElem?_eq_some_iff.1 s1).1
     have B4:Hid (Below base w w4):=HB3.out.trans ((((Below.refl _ _).alloc (Nat.le_refl _) _).trans (s4 _ (Nat.le_refl _))).mono hwr)
     have c0:w4.cell? ⟨wr.heap.size,0,none⟩=some (.string x.p):=((cell_block s1).1 _).trans (shA_p _ _ _)
     clear s1 s2 s3 s4 HR HI HX HB3
     generalize hm:wr.heap.size=m at *
     go_wp2_with fail
     refine (KF.out _).mono ?_
     rintro e w5 ⟨rfl,hb5⟩
     have S5:Hid (w5.heap[m]?=some (.cells x.A 57 (0,0))):=(hb5.block m hm4).trans S4.out
     have B5:Hid (Below base w w5):=B4.out.trans (hb5.mono (by omega))
     have hm5:m<w5.heap.size:=Nat.lt_of_lt_of_le hm4 hb5.size
     clear hb5 S4 B4 c0 KF
     go_upto_region 11 with (refine store_blk 31 22 Try.sizeFd (by rfl) (.tmp 8) (.tmp 52) (by rfl) w5.heap.size (fpA G.1) (by rfl) (by rfl) (by exact heap_b1 _ _) (by rfl) z0 a0 ?_;intro w6 s1 s2 s3 s4)
     have F6:Hid (w6.heap[w5.heap.size]?=some (.cells (fpA G.1) 31 (0,0))):=s1
     have S6:Hid (w6.heap[m]?=some (.cells x.A 57 (0,0))):=(s2 _ (by omega)).trans ((heap_old _ _ _ hm5).trans S5.out)
     have hf6:w5.heap.size<w6.heap.size:=(Array.getElem?_eq_some_iff.1 s1).1
     have B6:Hid (Below base w w6):=B5.out.trans ((((Below.refl _ _).alloc (Nat.le_refl _) _).trans (s4 _ (Nat.le_refl _))).mono (by omega))
     clear s1 s2 s3 s4 S5 B5 a0
     generalize hmf:w5.heap.size=mf at *
     go_wp2_with (refine load_blk 31 22 Try.underlying31 rfl Try.sizeFd (by rfl) (.tmp 8) (by rfl) mf (by rfl) F6.out z0 ?_)
     refine (HW.out _).mono ?_
     rintro e w7 ⟨rfl,hb7⟩
     have F7:Hid (w7.heap[mf]?=some (.cells (fpA G.1) 31 (0,0))):=(hb7.block mf hf6).trans F6.out
     have S7:Hid (shAt w7 m x.p x.d x.T):=(hb7.block m (by omega)).trans S6.out
     have B7:Hid (Below base w w7):=B6.out.trans (hb7.mono (by omega))
     have hf7:mf<w7.heap.size:=Nat.lt_of_lt_of_le hf6 hb7.size
     clear hb7 F6 S6 B6 HW
     go_wp2_with fail
     go_loopw [11] (fun i wr=>∃ a:Nat,a≤T.size+1∧i=.int .i64 a∧wr=w7∧Hid (∀ q v,q<a→q≤v→v≤T.size→x.T q v=false)) (fun i _=>T.size+1-(intOf i).toNat)
     case atStart=>exact ⟨0,by omega,rfl,rfl,fun q v h=>by omega⟩
     case round =>
      obtain ⟨a,ha,rfl,rfl,HQ⟩:=hrel
      by_cases ha':a≤T.size
      ·have d1:decide ((a:Int)≤(T.size:Int))=true:=by rw [decide_eq_true_eq];omega
       go_wp2_with fail
       go_loopw [12] (fun j wz=>∃ c:Nat,a≤c∧c≤T.size+1∧j=.int .i64 c∧wz=wr∧Hid (∀ v,a≤v→v<c→x.T a v=false)) (fun i _=>T.size+1-(intOf i).toNat)
       case atStart=>exact ⟨a,by omega,by omega,rfl,rfl,fun v h1 h2=>by omega⟩
       case round =>
        obtain ⟨c,hc1,hc2,rfl,rfl,HC⟩:=hrel
        by_cases hc':c≤T.size
        ·have d2:decide ((c:Int)≤(T.size:Int))=true:=by rw [decide_eq_true_eq];omega
         have e1:(a:Int)<11:=by omega
         have e2:(c:Int)<11:=by omega
         have x1:=shAt_cell S7.out (show a≤10 by omega) (show c≤10 by omega)
         cases hbit:x.T a c
         ·rw [hbit] at x1
          have HN:Hid (∀ v,a≤v→v<c+1→x.T a v=false):=fun v h1 h2=>by
           by_cases e:v<c
           ·exact HC.out v h1 e
           ·have:v=c:=by omega
            subst this;exact hbit
          clear hbit HC
          go_wp2_with fail
          go_roundw
          case rel=>exact ⟨c+1,by omega,by omega,by go_num,trivial,HN⟩
          case measure=>simp [intOf];omega
         ·obtain ⟨e,g1,g2,g3,g4,g5⟩:=HKO.out.hit a c hc1 hc' HQ.out hbit
          rw [hbit] at x1
          have G1:Hid (Shown G.1 (a:Int) (e:Int)):=g1
          have x2:=shAt_cell S7.out (show a≤10 by omega) (show e≤10 by omega)
          rw [g4] at x2
          have X2:Hid (wr.cell? ⟨m,2+a*11+e,none⟩=some (.bool true)):=x2
          have x3:wr.cell? ⟨mf,2,none⟩=some (.int .i64 (e:Int)):=((cell_block F7.out).1 2).trans ((fpA_get G.1 HKO.out.len 1 (by omega)).trans (congrArg (fun v=>some (Value.int .i64 v)) g5))
          have d4:decide ((a:Int)≤(e:Int))=true:=by rw [decide_eq_true_eq];omega
          have d5:decide ((e:Int)≤(T.size:Int))=true:=by rw [decide_eq_true_eq];omega
          have e3:(e:Int)<11:=by omega
          clear g1 g4 g5 hbit HC HQ x2
          go_wp2_with (refine load_blk 31 22 Try.underlying31 rfl Try.sizeFd (by rfl) (.tmp 8) (by rfl) mf (by rfl) F7.out z0 ?_)
          refine (HS.out _ _ _ G1.out).mono ?_
          rintro e' w8 ⟨rfl,hb8⟩
          have x4:w8.cell? ⟨m,2+a*11+e,none⟩=some (.bool true):=(hb8.cell (by show m<_;omega)).trans X2.out
          have B8:Hid (Below base w w8):=B7.out.trans (hb8.mono (by omega))
          clear hb8 x1 x3
          go_wp2_with fail
          go_ret
          refine ⟨rfl,?_⟩
          first | exact B8.out | (rw [hbase];exact B8.out)
        ·have d2:decide ((c:Int)≤(T.size:Int))=false:=by rw [decide_eq_false_iff_not];omega
         have HN:Hid (∀ q v,q<a+1→q≤v→v≤T.size→x.T q v=false):=fun q v h1 h2 h3=>by
          by_cases e:q<a
          ·exact HQ.out q v e h2 h3
          ·have:q=a:=by omega
           subst this;exact HC.out v h2 (by omega)
         go_wp2_with fail
         go_roundw
         case rel=>exact ⟨a+1,by omega,by go_num,trivial,HN⟩
         case measure=>simp [intOf];omega
      ·have d1:decide ((a:Int)≤(T.size:Int))=false:=by rw [decide_eq_false_iff_not];omega
       have g1:=HKO.out.miss (fun q v h1 h2=>HQ.out q v (by omega) h1 h2)
       have G1:Hid (Shown G.1 (-1) (-1)):=g1
       clear g1 HQ
       go_wp2_with (refine load_blk 31 22 Try.underlying31 rfl Try.sizeFd (by rfl) (.tmp 8) (by rfl) mf (by rfl) F7.out z0 ?_)
       refine (HS.out _ _ _ G1.out).mono ?_
       rintro e' w8 ⟨rfl,hb8⟩
       have B8:Hid (Below base w w8):=B7.out.trans (hb8.mono (by omega))
       clear hb8
       go_wp2_with fail
       go_ret
       refine ⟨rfl,?_⟩
       first | exact B8.out | (rw [hbase];exact B8.out)
end Go.Proofs.Ytebpgfodelggoab
