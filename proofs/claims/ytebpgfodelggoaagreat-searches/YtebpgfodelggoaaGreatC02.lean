import Derived.Test.YtebpgfodelggoaaGreatC01
import Derived.Laws.IdiomStrings
import Derived.Test.YtebpgfodelggoaaGreatC00
import Derived.Deep.MidRow
set_option linter.unusedVariables false
set_option linter.unusedSimpArgs false
set_option maxRecDepth 100000
set_option maxHeartbeats 4000000
namespace Go.Proofs.YtebpgfodelggoaaGreat
open Go.RowKit
theorem zL1 (p:ByteArray) (a b:Int) (no:Bool) (n:Nat):(Mt.zA2 p a b no n).length≤n:=by
 unfold Mt.zA2
 rw [List.length_map]
 exact Nat.le_trans (List.length_filter_le _ _) (by simp)
theorem zL2 {p:ByteArray} {a b:Int} {no:Bool} {n:Nat} (hn:n<256) (h:(Mt.kN p a b (n:Int) != no)=true):zAZ (Mt.zA2 p a b no (n+1))=zAZ (Mt.zA2 p a b no n)++[.int .u8 (n:Int)]∧(Mt.zA2 p a b no (n+1)).length=(Mt.zA2 p a b no n).length+1:=by
 have e:Mt.zA2 p a b no (n+1)=Mt.zA2 p a b no n++[UInt8.ofNat n]:=by
  unfold Mt.zA2
  rw [List.range_succ,List.filter_append,List.map_append]
  congr 1
  rw [List.filter_cons,if_pos h];rfl
 rw [e]
 refine ⟨?_,by simp⟩
 simp only [zAZ,List.map_append,List.map_cons,List.map_nil]
 have:(UInt8.ofNat n).toNat=n:=by simp;omega
 rw [this]
theorem zKH {p:ByteArray} {a b:Int} {no:Bool} {n:Nat} (h:(Mt.kN p a b (n:Int) != no)=false):Mt.zA2 p a b no (n+1)=Mt.zA2 p a b no n:=by
 unfold Mt.zA2
 rw [List.range_succ,List.filter_append,List.map_append]
 have:List.filter (fun c:Nat=>Mt.kN p a b (c:Int) != no) [n]=[]:=by rw [List.filter_cons,if_neg (by simp [h])];rfl
 rw [this];simp
theorem zEV (p:ByteArray) (a b:Int) (no:Bool) (w:World) (hp:p.size≤64) (ha0:0≤a) (ha1:a≤200) (hb1:b≤200) :
  Calls Tryz.prog 82 #[.string p,.int .i64 a,.int .i64 b,.bool no] w fun e w'=>e=.returned (.string ⟨(Mt.all p a b no).toArray⟩)∧Below w.heap.size w w':=by
 obtain ⟨i0,hi,hz0,hz1,hz2⟩:=info_parts Tryz.info5
 go_enter Tryz.func82,Tryz.ntmps82
 go_wp2_with fail
 go_loopw [9,10] (fun v i wr=>∃ k:Nat,k≤256∧i=.int .i64 k∧wr.ownsRow w.heap.size 5 1 v (Mt.zA2 p a b no k).length (zAZ (Mt.zA2 p a b no k))∧Below w.heap.size w wr) (fun _ i _=>256-(intOf i).toNat)
 case atStart=>exact ⟨0,by omega,rfl,World.ownsRow_nil _ _ _ _,Below.refl _ _⟩
 case round =>
  obtain ⟨k,hk,rfl,hown,hbel⟩:=hrel
  have hl:=zL1 p a b no k
  have hsz:=hbel.size
  by_cases hlt:k<256
  ·cases hq:(!(Mt.kN p a b (k:Int)==no))
   ·have em:=zKH hq
    have H1:Hid (wr.ownsRow w.heap.size 5 1 u9 (Mt.zA2 p a b no (k+1)).length (zAZ (Mt.zA2 p a b no (k+1)))):=by rw [em];exact hown
    clear em
    go_wp2_with (first | (go_at_call 112;refine (zEU _ _ _ _ _ hp (by omega) (by omega) (by omega) (by omega) (by omega)).mono ?_;rintro e w' ⟨rfl,rfl⟩))
    go_roundw
    case rel=>exact ⟨k+1,by omega,by go_num,H1.out,hbel⟩
    case measure=>simp [intOf];omega
   ·have eh:=zL2 hlt hq
    have H1:Hid (zAZ (Mt.zA2 p a b no (k+1))=zAZ (Mt.zA2 p a b no k)++[.int .u8 (k:Int)]∧(Mt.zA2 p a b no (k+1)).length=(Mt.zA2 p a b no k).length+1):=eh
    clear eh
    go_wp2_with (first | (go_at_call 112;refine (zEU _ _ _ _ _ hp (by omega) (by omega) (by omega) (by omega) (by omega)).mono ?_;rintro e w' ⟨rfl,rfl⟩) | (at_builtin;refine wpList_append_own _ rfl _ _ 158 rfl w.heap.size 5 i0 (.int .u8 0) 1 1 Tryz.underlying158 hi hz0 hz1 hz2 rfl (by decide) _ _ _ rfl (hown.alloc _) ⟨wr.heap.size,0,none⟩ 1 1 [.int .u8 (k:Int)] rfl rfl ?c1 ?c2 ?c3 ?c4 ?c5 ?_))
    case c1 =>
     intro j u hj
     match j,hj with
     | 0,hj=>simp at hj;subst hj;simp [Addr.add]
    case c2=>intro u hu;simp at hu;subst hu;rfl
    case c3=>unfold maxLen;omega
    case c4=>omega
    case c5=>simp;omega
    ·intro v' w1 hown' hgrow _
     have R1:Hid (w1.ownsRow w.heap.size 5 1 v' (Mt.zA2 p a b no (k+1)).length (zAZ (Mt.zA2 p a b no (k+1)))):=by
      show w1.ownsRow _ _ _ _ _ _
      rw [H1.out.1,H1.out.2];exact hown'
     have R2:Below w.heap.size w w1:=(hbel.alloc hsz _).grown hgrow (by simp;omega) (fun q hq'=>(hown.lt q hq').1)
     clear hown' hgrow hown
     go_wp2
     go_roundw
     case rel=>exact ⟨k+1,by omega,by go_num,R1.out,R2⟩
     case measure=>simp [intOf];omega
  ·have hk2:k=256:=by omega
   subst hk2
   have hcv:=zF8 wr w.heap.size _ _ hown
   go_wp2_with fail
   go_ret
   exact ⟨rfl,hbel⟩
theorem xO {w w1:World} {A:Array Value} {t:TypeId} (hb:Below (w.alloc (.cells A t)).heap.size (w.alloc (.cells A t)) w1) :
  (∀ o,w1.cell? ⟨w.heap.size,o,none⟩=A[o]?)∧(∀ o,w1.frozen? ⟨w.heap.size,o,none⟩=false)∧w.heap.size<w1.heap.size∧Below w.heap.size w w1:=by
 have hs:(w.alloc (.cells A t)).heap.size=w.heap.size+1:=by simp
 have h0:w1.heap[w.heap.size]?=some (.cells A t (0,0)):=by rw [hb.block _ (by omega),heap_alloc_new]
 have:=hb.size
 exact ⟨(zA h0).1,(zA h0).2,by omega,((Below.refl _ _).alloc (Nat.le_refl _) _).trans (hb.mono (by omega))⟩
theorem zBu {w w1:World} {A B:Array Value} {t u:TypeId} (hb:Below ((w.alloc (.cells A t)).alloc (.cells B u)).heap.size ((w.alloc (.cells A t)).alloc (.cells B u)) w1) :
  (∀ o,w1.cell? ⟨w.heap.size,o,none⟩=A[o]?)∧(∀ o,w1.frozen? ⟨w.heap.size,o,none⟩=false) ∧
  (∀ o,w1.cell? ⟨w.heap.size+1,o,none⟩=B[o]?)∧(∀ o,w1.frozen? ⟨w.heap.size+1,o,none⟩=false)∧w.heap.size+1<w1.heap.size∧Below w.heap.size w w1:=by
 have hs:((w.alloc (.cells A t)).alloc (.cells B u)).heap.size=w.heap.size+2:=by simp
 have hs1:(w.alloc (.cells A t)).heap.size=w.heap.size+1:=by simp
 have h0:w1.heap[w.heap.size]?=some (.cells A t (0,0)):=by rw [hb.block _ (by omega),zX _ _ _ (by omega),heap_alloc_new]
 have h1:w1.heap[w.heap.size+1]?=some (.cells B u (0,0)):=by rw [hb.block _ (by omega),← hs1,heap_alloc_new]
 have:=hb.size
 exact ⟨(zA h0).1,(zA h0).2,(zA h1).1,(zA h1).2,by omega,(((Below.refl _ _).alloc (Nat.le_refl _) _).alloc (by omega) _).trans (hb.mono (by omega))⟩
def yG (t:Mt.Tok):List Value:=[.int .i64 t.kind,.int .i64 t.frm,.int .i64 t.to,.int .i64 t.n,.int .i64 t.m,.int .i64 t.how,.string ⟨t.set.toArray⟩]
def zAP (t:Mt.Tok):Value:=.agg #[.int .i64 t.kind,.int .i64 t.frm,.int .i64 t.to,.int .i64 t.n,.int .i64 t.m,.int .i64 t.how,.string ⟨t.set.toArray⟩]
theorem zIX (p:ByteArray) (i:Int) (w:World) (hp:p.size≤64) (hi0:0≤i) (hi1:i≤100) :
  Calls Tryz.prog 80 #[.string p,.int .i64 i] w fun e w'=>e=.returned (.tuple #[zAP (Mt.opening p i).1,.bool (Mt.opening p i).2])∧Below w.heap.size w w':=by
 rcases Mt.zA3 p i with ⟨a1,e⟩ | ⟨a1,⟨a2,e⟩ | ⟨a2,a3,e⟩ | ⟨a2,a3,a4,e⟩ | ⟨a2,a3,a4,a5,e⟩ | ⟨a2,a3,a4,a5,e⟩⟩
 all_goals
  rw [e];clear e
  go_enter Tryz.func80,Tryz.ntmps80
  go_wp2_with (go_at_call 107;refine (zAO _ _ _ hp).mono ?_;rintro e w' ⟨rfl,rfl⟩)
  go_returns
  exact ⟨rfl,by go_grown⟩
theorem zCB (p:ByteArray) (t:Int) :
  ((Mt.atB p t==63)=true∧Mt.xR p t=(1,t+1))∨((Mt.atB p t==63)=false∧(Mt.atB p t==43)=true∧Mt.xR p t=(2,t+1)) ∨
  ((Mt.atB p t==63)=false∧(Mt.atB p t==43)=false∧Mt.xR p t=(0,t)):=by
 unfold Mt.xR
 simp only [beq_iff_eq,beq_eq_false_iff_ne]
 by_cases h:Mt.atB p t=63
 ·simp [h]
 ·rw [if_neg h]
  by_cases h2:Mt.atB p t=43
  ·simp [h2]
  ·simp [h,h2]
theorem byte_at (p:ByteArray) (k:Nat) (h:k<p.size):((p[k]'h).toNat:Int)=Mt.atB p k:=by
 have:=zIW p k h
 have hb:=(p[k]'h).toNat_lt
 rw [← this]
 exact (IntWalk.wrap64_in _ ⟨by omega,by omega⟩).symm
theorem zHE (p:ByteArray) (k:Nat) (w:World) (hp:p.size≤64) (hk:k<p.size) (h1:(((p[k]'hk).toNat:Int)==43)=false) (h2:(((p[k]'hk).toNat:Int)==63)=false) (h3:(((p[k]'hk).toNat:Int)==123)=false) :
  Calls Tryz.prog 81 #[.string p,.int .i64 k] w fun e w'=>e=.returned (.tuple #[zAP ⟨8,k,(Mt.xR p (k+1)).2,0,-1,(Mt.xR p (k+1)).1,[]⟩,.bool true])∧Below w.heap.size w w':=by
 rcases zCB p (k+1) with ⟨a1,e⟩ | ⟨a1,a2,e⟩ | ⟨a1,a2,e⟩
 all_goals
  rw [e];clear e
  go_enter Tryz.func81,Tryz.ntmps81
  go_wp2_with (go_at_call 107;refine (zAO _ _ _ hp).mono ?_;rintro e w' ⟨rfl,rfl⟩)
  go_returns
  exact ⟨rfl,by go_grown⟩
theorem zIY (p:ByteArray) (k:Nat) (w:World) (hp:p.size≤64) (hk:k<p.size) (h1:(((p[k]'hk).toNat:Int)==43)=true) :
  Calls Tryz.prog 81 #[.string p,.int .i64 k] w fun e w'=>e=.returned (.tuple #[zAP ⟨8,k,(Mt.xR p (k+1)).2,1,-1,(Mt.xR p (k+1)).1,[]⟩,.bool true])∧Below w.heap.size w w':=by
 rcases zCB p (k+1) with ⟨a1,e⟩ | ⟨a1,a2,e⟩ | ⟨a1,a2,e⟩
 all_goals
  rw [e];clear e
  go_enter Tryz.func81,Tryz.ntmps81
  go_wp2_with (go_at_call 107;refine (zAO _ _ _ hp).mono ?_;rintro e w' ⟨rfl,rfl⟩)
  go_returns
  exact ⟨rfl,by go_grown⟩
theorem zIZ (p:ByteArray) (k:Nat) (w:World) (hp:p.size≤64) (hk:k<p.size) (h1:(((p[k]'hk).toNat:Int)==43)=false) (h2:(((p[k]'hk).toNat:Int)==63)=true) :
  Calls Tryz.prog 81 #[.string p,.int .i64 k] w fun e w'=>e=.returned (.tuple #[zAP ⟨8,k,(Mt.xR p (k+1)).2,0,1,(Mt.xR p (k+1)).1,[]⟩,.bool true])∧Below w.heap.size w w':=by
 rcases zCB p (k+1) with ⟨a1,e⟩ | ⟨a1,a2,e⟩ | ⟨a1,a2,e⟩
 all_goals
  rw [e];clear e
  go_enter Tryz.func81,Tryz.ntmps81
  go_wp2_with (go_at_call 107;refine (zAO _ _ _ hp).mono ?_;rintro e w' ⟨rfl,rfl⟩)
  go_returns
  exact ⟨rfl,by go_grown⟩
theorem zHF (p:ByteArray) (k:Nat) (w:World) (hp:p.size≤64) (hk:k<p.size) (h1:(((p[k]'hk).toNat:Int)==43)=false) (h2:(((p[k]'hk).toNat:Int)==63)=false) (h3:(((p[k]'hk).toNat:Int)==123)=true) (hc:(Mt.count p k).2.2.2=true) :
  Calls Tryz.prog 81 #[.string p,.int .i64 k] w fun e w'=>e=.returned (.tuple #[zAP ⟨8,k,(Mt.xR p (Mt.count p k).2.2.1).2,(Mt.count p k).1,(Mt.count p k).2.1,(Mt.xR p (Mt.count p k).2.2.1).1,[]⟩,.bool true])∧Below w.heap.size w w':=by
 have ⟨b1,b2,b3,b4,b5,b6⟩:=Mt.zN3 p k (by omega)
 rcases zCB p (Mt.count p k).2.2.1 with ⟨a1,e⟩ | ⟨a1,a2,e⟩ | ⟨a1,a2,e⟩
 all_goals
  rw [e];clear e
  go_enter Tryz.func81,Tryz.ntmps81
  go_wp2_with (first | (go_at_call 107;refine (zAO _ _ _ hp).mono ?_;rintro e w' ⟨rfl,rfl⟩) | (go_at_call 111;refine (zHD _ _ _ hp (by omega) (by omega)).mono ?_;rintro e w' ⟨rfl,rfl⟩))
  go_returns
  exact ⟨rfl,by go_grown⟩
theorem zI0 (p:ByteArray) (k:Nat) (w:World) (hp:p.size≤64) (hk:k<p.size) (h1:(((p[k]'hk).toNat:Int)==43)=false) (h2:(((p[k]'hk).toNat:Int)==63)=false) (h3:(((p[k]'hk).toNat:Int)==123)=true) (hc:(Mt.count p k).2.2.2=false) :
  Calls Tryz.prog 81 #[.string p,.int .i64 k] w fun e w'=>e=.returned (.tuple #[zAP ⟨8,k,k+1,0,-1,0,[]⟩,.bool false])∧Below w.heap.size w w':=by
 go_enter Tryz.func81,Tryz.ntmps81
 go_wp2_with (first | (go_at_call 107;refine (zAO _ _ _ hp).mono ?_;rintro e w' ⟨rfl,rfl⟩) | (go_at_call 111;refine (zHD _ _ _ hp (by omega) (by omega)).mono ?_;rintro e w' ⟨rfl,rfl⟩))
 go_returns
 exact ⟨rfl,by go_grown⟩
theorem zCC (p:ByteArray) (i:Int) (w:World) (hp:p.size≤64) (hi0:0≤i) (hi1:i<(p.size:Int)) :
  Calls Tryz.prog 81 #[.string p,.int .i64 i] w fun e w'=>e=.returned (.tuple #[zAP (Mt.kI p i).1,.bool (Mt.kI p i).2])∧Below w.heap.size w w':=by
 obtain ⟨k,rfl⟩:=Int.eq_ofNat_of_zero_le hi0
 have hk:k<p.size:=by omega
 have eb:=byte_at p k hk
 unfold Mt.kI
 by_cases h1:Mt.atB p k=43
 ·rw [if_pos h1]
  exact zIY p k w hp hk (by rw [eb];simpa using h1)
 ·rw [if_neg h1]
  by_cases h2:Mt.atB p k=63
  ·rw [if_pos h2]
   exact zIZ p k w hp hk (by rw [eb];simpa using h1) (by rw [eb];simpa using h2)
  ·rw [if_neg h2]
   by_cases h3:Mt.atB p k=123
   ·rw [if_pos h3]
    cases hc:(Mt.count p k).2.2.2
    ·exact zI0 p k w hp hk (by rw [eb];simpa using h1) (by rw [eb];simpa using h2) (by rw [eb];simpa using h3) hc
    ·exact zHF p k w hp hk (by rw [eb];simpa using h1) (by rw [eb];simpa using h2) (by rw [eb];simpa using h3) hc
   ·rw [if_neg h3]
    exact zHE p k w hp hk (by rw [eb];simpa using h1) (by rw [eb];simpa using h2) (by rw [eb];simpa using h3)
theorem zBN {p:ByteArray} {i:Int} (h:Mt.zP p (Mt.yN p i)=-1):Mt.jM p i=(⟨0,0,0,0,0,0,[]⟩,false):=by unfold Mt.jM;rw [if_pos (Or.inl h)]
theorem zEe {p:ByteArray} {i:Int} (h:Mt.zP p (Mt.yN p i)=Mt.yN p i):Mt.jM p i=(⟨0,0,0,0,0,0,[]⟩,false):=by unfold Mt.jM;rw [if_pos (Or.inr h)]
theorem zEW {p:ByteArray} {i k:Int} (h:Mt.zP p (Mt.yN p i)=k) (h1:0≤k) (h2:k≠Mt.yN p i):Mt.jM p i=(⟨1,i,k+1,0,0,0,Mt.all p (Mt.yN p i) k (decide (Mt.atB p (i+1)=94))⟩,true):=by
 unfold Mt.jM;rw [h,if_neg (by omega)]
theorem zKI (p:ByteArray) (i a:Int) (no:Bool) (w:World) (hp:p.size≤64) (hi0:0≤i) (hi1:i≤64) (hno:(Mt.atB p (i+1)==94)=no) (ha:Hid (a=Mt.yN p i)) (ha0:a=if no then i+1+1 else i+1) :
  Calls Tryz.prog 79 #[.string p,.int .i64 i] w fun e w'=>e=.returned (.tuple #[zAP (Mt.jM p i).1,.bool (Mt.jM p i).2])∧Below w.heap.size w w':=by
 have hdec:Hid (decide (Mt.atB p (i+1)=94)=no):=by show _=_;rw [← hno];rfl
 cases no
 ·simp only [Bool.false_eq_true,if_false] at ha0
  subst ha0
  go_enter Tryz.func79,Tryz.ntmps79
  go_wp2_with (first | (go_at_call 107;refine (zAO _ _ _ hp).mono ?_;rintro e w' ⟨rfl,rfl⟩))
  go_loop [8] (fun b=>∃ k:Nat,i+1≤(k:Int)∧k≤100∧b=.int .i64 k∧Mt.zP p (i+1)=Mt.zP p k) (fun b=>200-(intOf b).toNat)
  case atStart=>exact ⟨(i+1).toNat,by omega,by omega,by rw [Int.toNat_of_nonneg (by omega)],by rw [Int.toNat_of_nonneg (by omega)]⟩
  case round =>
   obtain ⟨k,hk1,hk2,rfl,hr⟩:=hrel
   have H:Hid (Mt.zP p (i+1)=Mt.zP p k):=hr
   clear hr
   have ⟨d1,d2,d3,d4,d5,d6⟩:=Mt.zBs p k
   have hst:=Mt.yR p k
   by_cases hlt:k<p.size
   ·have eb:Hid (((p[k]'hlt).toNat:Int)=Mt.atB p k):=byte_at p k hlt
    rw [if_neg (by omega)] at hst
    cases hq:(((p[k]'hlt).toNat:Int) != 93)
    ·have h93:Mt.atB p k=93:=by rw [← eb.out];simpa using hq
     rw [if_pos h93] at hst
     have HS:Hid (Mt.zP p (i+1)=k):=H.out.trans hst
     clear hst h93 H
     cases hka:((k:Int)==i+1)
     ·have hT:=zEW (p:=p) (i:=i) (k:=k) (by rw [← ha.out];exact HS.out) (by omega) (by rw [← ha.out];simpa using hka)
      rw [← ha.out,hdec.out] at hT
      have HT:Hid (Mt.jM p i=(⟨1,i,k+1,0,0,0,Mt.all p (i+1) k false⟩,true)):=hT
      clear hT
      go_wp2_with (first | (go_at_call 82;refine (zEV _ _ _ _ _ hp (by omega) (by omega) (by omega)).mono ?_;rintro e w1 ⟨rfl,hb1⟩;obtain ⟨q0,q1,q4,q5⟩:=xO hb1;clear hb1))
      refine bodyPost_ret (v:=.tuple #[zAP ⟨1,i,k+1,0,0,0,Mt.all p (i+1) k false⟩,.bool true]) (by simp [results,Tryz.results79,go_sem,q0,q1,zAP]) rfl ⟨by rw [HT.out],?_⟩
      go_grown
     ·have hT:=zEe (p:=p) (i:=i) (by rw [← ha.out,HS.out];simpa using hka)
      have HT:Hid (Mt.jM p i=(⟨0,0,0,0,0,0,[]⟩,false)):=hT
      clear hT
      go_wp2_with fail
      go_returns
      exact ⟨by rw [HT.out];rfl,by go_grown⟩
    ·have h93:¬ Mt.atB p k=93:=by rw [← eb.out];simpa using hq
     rw [if_neg h93] at hst
     clear h93
     cases hz:((Mt.item p k).2.2.1==0)
     ·rw [if_neg (by simpa using hz)] at hst
      have hz1:1≤(Mt.item p k).2.2.1:=by
       have:(Mt.item p k).2.2.1≠0:=by simpa using hz
       omega
      have R:Hid (Mt.zP p (i+1)=Mt.zP p (k+(Mt.item p k).2.2.1)):=H.out.trans hst
      clear hst H
      go_wp2_with (first | (go_at_call 110;refine (zAN _ _ _ hp (by omega) (by omega)).mono ?_;rintro e w' ⟨rfl,rfl⟩))
      go_round
      case rel=>exact ⟨((k:Int)+(Mt.item p k).2.2.1).toNat,by omega,by omega,by rw [Int.toNat_of_nonneg (by omega)],by rw [Int.toNat_of_nonneg (by omega)];exact R.out⟩
      case measure=>simp [intOf];omega
     ·rw [if_pos (by simpa using hz)] at hst
      have HT:Hid (Mt.jM p i=(⟨0,0,0,0,0,0,[]⟩,false)):=zBN (by rw [← ha.out];exact H.out.trans hst)
      clear hst H
      go_wp2_with (first | (go_at_call 110;refine (zAN _ _ _ hp (by omega) (by omega)).mono ?_;rintro e w' ⟨rfl,rfl⟩))
      go_returns
      exact ⟨by rw [HT.out];rfl,by go_grown⟩
   ·rw [if_pos (by omega)] at hst
    have HT:Hid (Mt.jM p i=(⟨0,0,0,0,0,0,[]⟩,false)):=zBN (by rw [← ha.out];exact H.out.trans hst)
    clear hst H
    cases hka:((k:Int)==i+1)
    all_goals
     go_wp2_with fail
     go_returns
     exact ⟨by rw [HT.out];rfl,by go_grown⟩
 ·simp only [if_true] at ha0
  subst ha0
  go_enter Tryz.func79,Tryz.ntmps79
  go_wp2_with (first | (go_at_call 107;refine (zAO _ _ _ hp).mono ?_;rintro e w' ⟨rfl,rfl⟩))
  go_loop [8] (fun b=>∃ k:Nat,i+1+1≤(k:Int)∧k≤100∧b=.int .i64 k∧Mt.zP p (i+1+1)=Mt.zP p k) (fun b=>200-(intOf b).toNat)
  case atStart=>exact ⟨(i+1+1).toNat,by omega,by omega,by rw [Int.toNat_of_nonneg (by omega)],by rw [Int.toNat_of_nonneg (by omega)]⟩
  case round =>
   obtain ⟨k,hk1,hk2,rfl,hr⟩:=hrel
   have H:Hid (Mt.zP p (i+1+1)=Mt.zP p k):=hr
   clear hr
   have ⟨d1,d2,d3,d4,d5,d6⟩:=Mt.zBs p k
   have hst:=Mt.yR p k
   by_cases hlt:k<p.size
   ·have eb:Hid (((p[k]'hlt).toNat:Int)=Mt.atB p k):=byte_at p k hlt
    rw [if_neg (by omega)] at hst
    cases hq:(((p[k]'hlt).toNat:Int) != 93)
    ·have h93:Mt.atB p k=93:=by rw [← eb.out];simpa using hq
     rw [if_pos h93] at hst
     have HS:Hid (Mt.zP p (i+1+1)=k):=H.out.trans hst
     clear hst h93 H
     cases hka:((k:Int)==i+1+1)
     ·have hT:=zEW (p:=p) (i:=i) (k:=k) (by rw [← ha.out];exact HS.out) (by omega) (by rw [← ha.out];simpa using hka)
      rw [← ha.out,hdec.out] at hT
      have HT:Hid (Mt.jM p i=(⟨1,i,k+1,0,0,0,Mt.all p (i+1+1) k true⟩,true)):=hT
      clear hT
      go_wp2_with (first | (go_at_call 82;refine (zEV _ _ _ _ _ hp (by omega) (by omega) (by omega)).mono ?_;rintro e w1 ⟨rfl,hb1⟩;obtain ⟨q0,q1,q4,q5⟩:=xO hb1;clear hb1))
      refine bodyPost_ret (v:=.tuple #[zAP ⟨1,i,k+1,0,0,0,Mt.all p (i+1+1) k true⟩,.bool true]) (by simp [results,Tryz.results79,go_sem,q0,q1,zAP]) rfl ⟨by rw [HT.out],?_⟩
      go_grown
     ·have hT:=zEe (p:=p) (i:=i) (by rw [← ha.out,HS.out];simpa using hka)
      have HT:Hid (Mt.jM p i=(⟨0,0,0,0,0,0,[]⟩,false)):=hT
      clear hT
      go_wp2_with fail
      go_returns
      exact ⟨by rw [HT.out];rfl,by go_grown⟩
    ·have h93:¬ Mt.atB p k=93:=by rw [← eb.out];simpa using hq
     rw [if_neg h93] at hst
     clear h93
     cases hz:((Mt.item p k).2.2.1==0)
     ·rw [if_neg (by simpa using hz)] at hst
      have hz1:1≤(Mt.item p k).2.2.1:=by
       have:(Mt.item p k).2.2.1≠0:=by simpa using hz
       omega
      have R:Hid (Mt.zP p (i+1+1)=Mt.zP p (k+(Mt.item p k).2.2.1)):=H.out.trans hst
      clear hst H
      go_wp2_with (first | (go_at_call 110;refine (zAN _ _ _ hp (by omega) (by omega)).mono ?_;rintro e w' ⟨rfl,rfl⟩))
      go_round
      case rel=>exact ⟨((k:Int)+(Mt.item p k).2.2.1).toNat,by omega,by omega,by rw [Int.toNat_of_nonneg (by omega)],by rw [Int.toNat_of_nonneg (by omega)];exact R.out⟩
      case measure=>simp [intOf];omega
     ·rw [if_pos (by simpa using hz)] at hst
      have HT:Hid (Mt.jM p i=(⟨0,0,0,0,0,0,[]⟩,false)):=zBN (by rw [← ha.out];exact H.out.trans hst)
      clear hst H
      go_wp2_with (first | (go_at_call 110;refine (zAN _ _ _ hp (by omega) (by omega)).mono ?_;rintro e w' ⟨rfl,rfl⟩))
      go_returns
      exact ⟨by rw [HT.out];rfl,by go_grown⟩
   ·rw [if_pos (by omega)] at hst
    have HT:Hid (Mt.jM p i=(⟨0,0,0,0,0,0,[]⟩,false)):=zBN (by rw [← ha.out];exact H.out.trans hst)
    clear hst H
    cases hka:((k:Int)==i+1+1)
    all_goals
     go_wp2_with fail
     go_returns
     exact ⟨by rw [HT.out];rfl,by go_grown⟩
theorem zL3 (p:ByteArray) (i:Int) (w:World) (hp:p.size≤64) (hi0:0≤i) (hi1:i≤64) :
  Calls Tryz.prog 79 #[.string p,.int .i64 i] w fun e w'=>e=.returned (.tuple #[zAP (Mt.jM p i).1,.bool (Mt.jM p i).2])∧Below w.heap.size w w':=by
 refine zKI p i (Mt.yN p i) (Mt.atB p (i+1)==94) w hp hi0 hi1 rfl rfl ?_
 unfold Mt.yN
 by_cases h:Mt.atB p (i+1)=94
 ·rw [if_pos h,if_pos (by simpa using h)];omega
 ·rw [if_neg h,if_neg (by simpa using h)]
theorem Tryz.size80:(Tryz.prog.info? 97).map (·.size)=some 7:=by kernel_rfl
theorem qR {ops:Array Oper} {rest:List Oper} {op:Oper} {a:Act} {w:World} {Q:Exit→Act→World→Prop} (hgd:op.guard=none) (x y:Operand) (ho:op.op=.store 97 x y)
  (b:Nat) (t:Mt.Tok) (hx:a.eval x=.pointer (some ⟨b,0,none⟩)) (hy:a.eval y=zAP t) {B:Array Value} (q2:∀ o,w.cell? ⟨b,o,none⟩=B[o]?) (q3:∀ o,w.frozen? ⟨b,o,none⟩=false) (hB:B.size=7)
  (h:∀ w2:World,(∀ o,w2.cell? ⟨b,o,none⟩=#[Value.int .i64 t.kind,.int .i64 t.frm,.int .i64 t.to,.int .i64 t.n,.int .i64 t.m,.int .i64 t.how,.string ⟨t.set.toArray⟩][o]?)→(∀ o,w2.frozen? ⟨b,o,none⟩=false) →
   (∀ c o,c≠b→w2.cell? ⟨c,o,none⟩=w.cell? ⟨c,o,none⟩)→(∀ c o,w2.frozen? ⟨c,o,none⟩=w.frozen? ⟨c,o,none⟩)→w2.heap.size=w.heap.size→(∀ L,L≤b→Below L w w2) →
   wpList Tryz.prog ops Q rest (a.put op.dst undef) w2):wpList Tryz.prog ops Q (op::rest) a w:=by
 obtain ⟨w2,e,h1,h2,h3,h4,h5,h6⟩:=zCh q2 q3 #[Value.int .i64 t.kind,.int .i64 t.frm,.int .i64 t.to,.int .i64 t.n,.int .i64 t.m,.int .i64 t.how,.string ⟨t.set.toArray⟩] (by simp [hB])
 refine wpList_store_mid hgd 97 x y ho b 0 #[Value.int .i64 t.kind,.int .i64 t.frm,.int .i64 t.to,.int .i64 t.n,.int .i64 t.m,.int .i64 t.how,.string ⟨t.set.toArray⟩] hx hy (jN q2 q3 7 (by omega)) Tryz.size80 (by simp [Value.oneCell']) ?_
 rw [← e]
 exact h w2 h1 h2 h3 h4 h5 h6
theorem zEX (w:World) (b:Nat) (hb':b=w.heap.size) (xs:List Value) (e':TypeId):∀ j u,xs[j]?=some u→(w.alloc (.cells xs.toArray e')).cell? ((⟨b,0,none⟩:Addr).add j)=some u:=by
 subst hb';exact zAC w xs e'
theorem zDl (w:World) (a:Addr) (u:Value):w.grownBy (w.setCell a u) (some a.block) :=
 ⟨rfl,rfl,rfl,by simp [World.setCell],fun k _ hne=>Below.heap_setCell _ _ _ _ (fun e=>hne (by rw [e]))⟩
theorem zDM {b:Nat} {w2 w3:World} {o:Obj} {ob:Option Nat} (hg:(w2.alloc o).grownBy w3 ob) (hlt:b<w2.heap.size) (hne:∀ q,ob=some q→q<b) (x:Nat):w3.cell? ⟨b,x,none⟩=w2.cell? ⟨b,x,none⟩:=by
 have h1:w3.heap[b]?=(w2.alloc o).heap[b]?:=hg.block b (by simp;omega) (fun e=>by have:=hne b e.symm;omega)
 have h2:(w2.alloc o).heap[b]?=w2.heap[b]?:=zX _ _ _ hlt
 exact World.cell?_of_block (w:=w2) (a:=⟨b,x,none⟩) (h1.trans h2)
def toks (w:World) (v:Value) (l:List Mt.Tok):Prop:=w.ownsRow 0 97 7 v l.length (l.flatMap yG)
theorem zPX:∀ (l:List Mt.Tok) (k j:Nat),k<l.length→j<7→(l.flatMap yG)[k*7+j]?=(yG (l.getD k Mt.kX))[j]?:=by
 intro l
 induction l with
 | nil=>intro k j h;simp at h
 | cons t r ih =>
  intro k j h hj
  rw [List.flatMap_cons]
  have h7:(yG t).length=7:=rfl
  cases k with
  | zero=>rw [List.getElem?_append_left (by omega)];simp
  | succ k =>
   rw [List.getElem?_append_right (by omega),h7,show (k+1)*7+j-7=k*7+j by omega,ih k j (by simpa using h) hj]
   simp
theorem vR {w:World} {v:Value} {l:List Mt.Tok} (h:toks w v l) :
  (l=[]∧∃ ao cap,v=.slice ao 0 cap) ∨
  (0<l.length∧∃ g cap,v=.slice (some ⟨g,0,none⟩) l.length cap∧l.length≤cap∧g<w.heap.size∧∀ k j,k<l.length→j<7→w.cell? ⟨g,k*7+j,none⟩=(yG (l.getD k Mt.kX))[j]?):=by
 by_cases h0:l=[]
 ·left
  subst h0
  refine ⟨rfl,?_⟩
  rcases h.2 with ⟨rfl,_⟩ | ⟨g,cap,cur,rfl,_⟩
  ·exact ⟨_,_,rfl⟩
  ·exact ⟨_,_,rfl⟩
 ·right
  have hp:0<l.length:=List.length_pos_iff.2 h0
  refine ⟨hp,?_⟩
  rcases h.2 with ⟨rfl,hn⟩ | ⟨g,cap,cur,rfl,hb,hg,h1,h2,h3,h4⟩
  ·omega
  ·refine ⟨g,cap,rfl,h1,(Array.getElem?_eq_some_iff.1 hg).1,fun k j hk hj=>?_⟩
   have hc:=World.ownsRow.cellAt (g:=g) (cap:=cap) h (k*7+j) (by omega)
   rw [hc,zPX l k j hk hj]
theorem jR {w w':World} {v:Value} {l:List Mt.Tok} (h:toks w v l) (hb:Below w.heap.size w w'):toks w' v l:=by
 refine ⟨h.1,?_⟩
 rcases h.2 with h' | ⟨g,cap,cur,rfl,h0,hg,rest⟩
 ·exact .inl h'
 ·exact .inr ⟨g,cap,cur,rfl,h0,by rw [hb.block g (Array.getElem?_eq_some_iff.1 hg).1];exact hg,rest⟩
theorem zEY (t:Mt.Tok):((t.kind==6)=true∧(t.kind==7)=false∧Mt.delta t=1)∨((t.kind==6)=false∧(t.kind==7)=true∧Mt.delta t=-1)∨((t.kind==6)=false∧(t.kind==7)=false∧Mt.delta t=0):=by
 unfold Mt.delta
 simp only [beq_iff_eq,beq_eq_false_iff_ne]
 by_cases h:t.kind=6
 ·simp [h]
 ·by_cases h2:t.kind=7
  ·simp [h2]
  ·simp [h,h2]
theorem zDN (l:List Mt.Tok) (v:Value) (w:World) (h:toks w v l) (hl:l.length≤64) :
  Calls Tryz.prog 51 #[v] w fun e w'=>e=.returned (.int .i64 (Mt.opened l))∧w=w':=by
 rcases vR h with ⟨rfl,ao,cap,rfl⟩ | ⟨hp,g,cap,rfl,hcap,hg,hc⟩
 ·clear h
  go_enter Tryz.func51,Tryz.ntmps51
  go_wp2_with fail
  refine wp_loop_rounds 1 ?_
  rw [rounds_succ]
  go_wp2
  go_ret
  exact ⟨rfl,rfl⟩
 ·clear h
  have HC:Hid (∀ k j,k<l.length→j<7→w.cell? ⟨g,k*7+j,none⟩=(yG (l.getD k Mt.kX))[j]?):=hc
  clear hc
  go_enter Tryz.func51,Tryz.ntmps51
  go_wp2_with fail
  go_loop [3,4] (fun n i=>∃ k:Nat,k≤l.length∧i=.int .i64 k∧n=.int .i64 (Mt.opened (l.take k))) (fun _ i=>l.length-(intOf i).toNat)
  case atStart=>exact ⟨0,Nat.zero_le _,rfl,rfl⟩
  case round =>
   obtain ⟨k,hk,rfl,rfl⟩:=hrel
   have ⟨b1,b2⟩:=Mt.zFR l k
   by_cases hlt:k<l.length
   ·have hc0:w.cell? ⟨g,k*7,none⟩=some (.int .i64 (l.getD k Mt.kX).kind):=HC.out k 0 hlt (by omega)
    have hn:Hid (Mt.opened (l.take (k+1))=Mt.opened (l.take k)+Mt.delta (l.getD k Mt.kX)):=Mt.zES l k hlt
    generalize hT:l.getD k Mt.kX=T at *
    clear hT
    rcases zEY T with ⟨e1,e2,e3⟩ | ⟨e1,e2,e3⟩ | ⟨e1,e2,e3⟩
    all_goals
     have hn':Hid (Mt.opened (l.take (k+1))=Mt.opened (l.take k)+Mt.delta T):=hn
     have e3':Hid (Mt.delta T=_):=e3
     clear e3 hn
     go_wp2
     go_round
     case rel=>exact ⟨k+1,by omega,by go_num,by first | (rw [hn'.out,e3'.out];done) | (rw [hn'.out,e3'.out];go_num)⟩
     case measure=>simp [intOf];omega
   ·have:k=l.length:=by omega
    subst this
    go_wp2
    go_ret
    exact ⟨zBt (by first | rfl | rw [List.take_length]),rfl⟩
theorem zL4 (t:Mt.Ins):∀ u∈zT t,u.oneCell'=true:=by
 intro u hu
 simp only [zT,List.mem_cons,List.not_mem_nil,or_false] at hu
 rcases hu with rfl | rfl | rfl | rfl <;> rfl
theorem zBO (c:List Mt.Ins):∀ u∈c.flatMap zT,u.oneCell'=true:=by
 intro u hu
 obtain ⟨i,_,hi⟩:=List.mem_flatMap.1 hu
 exact zL4 i u hi
theorem zHG {w:World} {base:Nat} {v:Value} {l:List Mt.Ins} {t:Mt.Ins} (h:w.ownsRow base 112 4 v (l.length+1) (l.flatMap zT++zT t)):zB w base v (l++[t]):=by
 unfold zB
 rw [List.length_append,List.flatMap_append,List.flatMap_cons,List.flatMap_nil,List.append_nil]
 exact h
theorem zBk (l:List Mt.Ins):(l.flatMap zT).length=l.length*4:=by
 induction l with
 | nil=>rfl
 | cons t r ih=>rw [List.flatMap_cons,List.length_append,ih];simp [zT];omega
theorem zAq {w:World} {base:Nat} {v:Value} {l:List Mt.Ins} (h:zB w base v l) :
  (l=[]∧∃ ao cap,v=.slice ao 0 cap) ∨
  (0<l.length∧∃ g cap,v=.slice (some ⟨g,0,none⟩) l.length cap∧l.length≤cap∧g<w.heap.size∧base≤g∧∀ k j,k<l.length→j<4→w.cell? ⟨g,k*4+j,none⟩=(zT (l.getD k Mt.jA))[j]?):=by
 by_cases h0:l=[]
 ·left
  subst h0
  refine ⟨rfl,?_⟩
  rcases h.2 with ⟨rfl,_⟩ | ⟨g,cap,cur,rfl,_⟩
  ·exact ⟨_,_,rfl⟩
  ·exact ⟨_,_,rfl⟩
 ·right
  have hp:0<l.length:=List.length_pos_iff.2 h0
  refine ⟨hp,?_⟩
  rcases h.2 with ⟨rfl,hn⟩ | ⟨g,cap,cur,rfl,hb,hg,h1,h2,h3,h4⟩
  ·omega
  ·refine ⟨g,cap,rfl,h1,(Array.getElem?_eq_some_iff.1 hg).1,hb,fun k j hk hj=>?_⟩
   have hc:=World.ownsRow.cellAt (g:=g) (cap:=cap) h (k*4+j) (by omega)
   rw [hc,zAD l k j hk hj]
theorem Tryz.info49:(Tryz.prog.info? 112).map (fun i=>(i.zero,i.size,i.bytes))=some (some (.agg #[.int .i64 0,.int .i64 0,.int .i64 0,.string ⟨#[]⟩]),4,40):=by kernel_rfl
theorem zKJ {c:List Mt.Ins} {k:Nat} (h:k<c.length) (n:Int):Mt.moved (c.take (k+1)) n=Mt.moved (c.take k) n++[Mt.zAc (c.getD k Mt.jA) n]:=by
 have:c.take (k+1)=c.take k++[c.getD k Mt.jA]:=by
  rw [List.take_succ_eq_append_getElem h,List.getD_eq_getElem?_getD,List.getElem?_eq_getElem h];rfl
 rw [this];simp [Mt.moved]
theorem zHH (i:Mt.Ins) (n:Int) :
  ((i.op==2)=true∧Mt.zAc i n=⟨i.op,i.x+n,i.y+n,i.set⟩) ∨
  ((i.op==2)=false∧(i.op==3)=true∧Mt.zAc i n=⟨i.op,i.x+n,i.y,i.set⟩) ∨
  ((i.op==2)=false∧(i.op==3)=false∧(i.op==5)=true∧Mt.zAc i n=⟨i.op,i.x+n,i.y,i.set⟩) ∨
  ((i.op==2)=false∧(i.op==3)=false∧(i.op==5)=false∧(i.op==11)=true∧Mt.zAc i n=⟨i.op,i.x,i.y+n,i.set⟩) ∨
  ((i.op==2)=false∧(i.op==3)=false∧(i.op==5)=false∧(i.op==11)=false∧Mt.zAc i n=i):=by
 unfold Mt.zAc
 simp only [beq_iff_eq,beq_eq_false_iff_ne]
 by_cases h1:i.op=2
 ·rw [if_pos h1];simp [h1]
 rw [if_neg h1]
 by_cases h2:i.op=3
 ·rw [if_pos (Or.inl h2)];simp [h2]
 by_cases h3:i.op=5
 ·rw [if_pos (Or.inr h3)];simp [h3]
 rw [if_neg (by omega)]
 by_cases h4:i.op=11
 ·rw [if_pos h4];simp [h4]
 rw [if_neg h4];simp [h1,h2,h3,h4]
theorem zHI (c:List Mt.Ins) (n:Int) (base:Nat) (v:Value) (w:World) (h:zB w base v c) (hf:Mt.fit 1000000000 c) (hn0:0≤n) (hn1:n≤300) :
  Calls Tryz.prog 103 #[v,.int .i64 n] w fun e w'=>∃ v',e=.returned v'∧zB w' w.heap.size v' (Mt.moved c n)∧Below w.heap.size w w':=by
 have hlen:=hf.1
 rcases zAq h with ⟨rfl,ao,cap,rfl⟩ | ⟨hp,g,cap,rfl,hcap,hg,hgb,hc⟩
 ·clear h hf
  go_enter Tryz.func103,Tryz.ntmps103
  go_wp2_with fail
  refine wp_loop_rounds 1 ?_
  rw [rounds_succ]
  go_wp2
  go_ret
  exact ⟨_,rfl,World.ownsRow_nil _ _ _ _,Below.refl _ _⟩
 ·obtain ⟨i0,hi,hz0,hz1,hz2⟩:=info_parts Tryz.info49
  clear h
  have HC:Hid (∀ k j,k<c.length→j<4→w.cell? ⟨g,k*4+j,none⟩=(zT (c.getD k Mt.jA))[j]?):=hc
  have HF:Hid (∀ i∈c,Mt.zIV 1000000000 i):=hf.2
  clear hc hf
  go_enter Tryz.func103,Tryz.ntmps103
  go_wp2_with fail
  go_loopw [5,6] (fun v i wr=>∃ k:Nat,k≤c.length∧i=.int .i64 k∧zB wr w.heap.size v (Mt.moved (c.take k) n)∧Below w.heap.size w wr) (fun _ i _=>c.length-(intOf i).toNat)
  case atStart=>exact ⟨0,Nat.zero_le _,rfl,World.ownsRow_nil _ _ _ _,Below.refl _ _⟩
  case round =>
   obtain ⟨k,hk,rfl,hown,hbel⟩:=hrel
   have hsz:=hbel.size
   have hml:(Mt.moved (c.take k) n).length=k:=by rw [Mt.jV,List.length_take];omega
   have HO:Hid (zB wr w.heap.size u5 (Mt.moved (c.take k) n)):=hown
   clear hown
   by_cases hlt:k<c.length
   ·have hc0:wr.cell? ⟨g,k*4,none⟩=some (.int .i64 (c.getD k Mt.jA).op):=(hbel.cell (p:=⟨g,k*4,none⟩) hg).trans (HC.out k 0 hlt (by omega))
    have hc1:wr.cell? ⟨g,k*4+1,none⟩=some (.int .i64 (c.getD k Mt.jA).x):=(hbel.cell (p:=⟨g,k*4+1,none⟩) hg).trans (HC.out k 1 hlt (by omega))
    have hc2:wr.cell? ⟨g,k*4+2,none⟩=some (.int .i64 (c.getD k Mt.jA).y):=(hbel.cell (p:=⟨g,k*4+2,none⟩) hg).trans (HC.out k 2 hlt (by omega))
    have hc3:wr.cell? ⟨g,k*4+3,none⟩=some (.string ⟨(c.getD k Mt.jA).set.toArray⟩):=(hbel.cell (p:=⟨g,k*4+3,none⟩) hg).trans (HC.out k 3 hlt (by omega))
    have HT:Hid (Mt.moved (c.take (k+1)) n=Mt.moved (c.take k) n++[Mt.zAc (c.getD k Mt.jA) n]):=zKJ hlt n
    have hfi:Mt.zIV 1000000000 (c.getD k Mt.jA):=HF.out _ (by rw [List.getD_eq_getElem?_getD,List.getElem?_eq_getElem hlt];exact List.getElem_mem hlt)
    generalize hI:c.getD k Mt.jA=I at *
    clear hI
    obtain ⟨f1,f2,f3,f4⟩:=hfi
    generalize hP:Mt.moved (c.take k) n=P at *
    have HP:Hid (Mt.moved (c.take k) n=P):=hP
    clear hP
    rcases zHH I n with ⟨e1,e⟩ | ⟨e1,e2,e⟩ | ⟨e1,e2,e3,e⟩ | ⟨e1,e2,e3,e4,e⟩ | ⟨e1,e2,e3,e4,e⟩
    all_goals
     have HE:Hid (Mt.zAc I n=_):=e
     clear e
     go_wp2_with (first | (at_builtin;refine wpList_append_own _ rfl _ _ 40 rfl w.heap.size 112 i0 _ 4 40 Tryz.underlying40 hi hz0 hz1 hz2 rfl (by decide) _ _ _ rfl (World.ownsRow.alloc (World.ownsRow.alloc HO.out _) _) ⟨wr.heap.size+1,0,none⟩ 1 1 (zT (Mt.zAc I n)) rfl rfl ?_ (zL4 _) ?_ ?_ ?_ ?_;rotate_right))
     ·intro v' w1 hown' hgrow _
      have R1:Hid (zB w1 w.heap.size v' (Mt.moved (c.take (k+1)) n)):=by
       show zB _ _ _ _
       rw [HT.out];exact zHG (by rw [hml];exact hown')
      have R2:Below w.heap.size w w1:=((hbel.alloc hsz _).alloc (by simp;omega) _).grown hgrow (by simp;omega) (fun q hq'=>(World.ownsRow.lt HO.out q hq').1)
      clear hown' hgrow HO HT HP HE
      go_wp2
      go_roundw
      case rel=>exact ⟨k+1,by omega,by go_num,R1.out,R2⟩
      case measure=>simp [intOf];omega
     ·rw [HE.out];exact zEX _ _ (by simp) _ _
     ·unfold maxLen;omega
     ·omega
     ·simp;omega
   ·have hk2:k=c.length:=by omega
    have HO2:Hid (zB wr w.heap.size u5 (Mt.moved c n)):=by
     have:=HO.out
     rw [hk2,List.take_length] at this
     exact this
    clear HO
    go_wp2_with fail
    go_ret
    exact ⟨_,rfl,HO2.out,hbel⟩
end Go.Proofs.YtebpgfodelggoaaGreat
