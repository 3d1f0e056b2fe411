import Derived.Test.YtebpgfodelggoaaGreatC39
import Derived.Test.YtebpgfodelggoaaGreatC40
set_option linter.unusedVariables false
set_option linter.unusedSimpArgs false
set_option maxRecDepth 100000
set_option maxHeartbeats 4000000
namespace Mt
def zIv (s:Sta):Prop:=∀ k,k<10→(gt s (2+2*k)=-1∧gt s (2+(2*k+1))=-1)∨0≤gt s (2+2*k)
theorem zIv.of {s u:Sta} (h:zIv s) (e:∀ k,k<10→(gt u (2+2*k)=gt s (2+2*k)∧gt u (2+(2*k+1))=gt s (2+(2*k+1)))∨0≤gt u (2+2*k)):zIv u:=fun k hk=>by
 rcases e k hk with e1 | e1
 ·rw [e1.1,e1.2];exact h k hk
 ·exact .inr e1
theorem zIv.set {s:Sta} (h:zIv s) (i:Nat) (v:Int) (hi:i<2∨22≤i):zIv (s.set i v):=h.of fun k hk=>.inl ⟨zS _ _ _ _ (by omega),zS _ _ _ _ (by omega)⟩
theorem zJJ (p:Int):zIv (kJ p):=fun k hk=>by
 left
 have key:∀ j,j<20→gt (kJ p) (2+j)=-1:=fun j hj=>by
  unfold gt kJ nowhere
  rw [List.getD_eq_getElem?_getD,show 2+j=j+1+1 by omega,List.getElem?_cons_succ,List.getElem?_cons_succ,List.getElem?_append_left (by simp;omega),List.getElem?_replicate,if_pos (by omega)];rfl
 exact ⟨key _ (by omega),key _ (by omega)⟩
theorem zKs {L T:Nat} {t:ByteArray} {s:Sta} {x:Ins} (hg:Good L T s) (h:zIv s) (hx:x.op=6∨x.op=7∨x.op=8→0≤x.x∧x.x<10):zIv (qU t s x).1:=by
 unfold qU
 by_cases o1:x.op=1
 ·rw [if_pos o1];exact (h.set 1 _ (by omega)).set 0 _ (by omega)
 rw [if_neg o1]
 by_cases o3:x.op=3
 ·rw [if_pos o3];exact h.set 0 _ (by omega)
 rw [if_neg o3]
 by_cases o4:x.op=4
 ·rw [if_pos o4];exact (h.set _ _ (by omega)).set 0 _ (by omega)
 rw [if_neg o4]
 by_cases o5:x.op=5
 ·rw [if_pos o5];exact h.set 0 _ (by omega)
 rw [if_neg o5]
 by_cases o6:x.op=6
 ·rw [if_pos o6];exact (h.set _ _ (by omega)).set 0 _ (by omega)
 rw [if_neg o6]
 by_cases o7:x.op=7
 ·rw [if_pos o7]
  have hi:=hx (.inr (.inl o7))
  refine zIv.set ?_ 0 _ (by omega)
  refine h.of fun k hk=>?_
  have hl:=hg.len
  by_cases e:k=x.x.toNat
  ·right
   rw [zS _ _ _ _ (by omega),show 2+2*k=2+(2*x.x).toNat by omega,qA _ _ _ (by omega)]
   exact (hg.noted x.x.toNat (by omega)).1
  ·left
   rw [zS _ _ _ _ (by omega),zS _ _ _ _ (by omega),zS _ _ _ _ (by omega),zS _ _ _ _ (by omega)]
   exact ⟨rfl,rfl⟩
 rw [if_neg o7]
 by_cases o8:x.op=8
 ·rw [if_pos o8]
  unfold zBT
  split
  ·exact h
  split
  ·exact h
  ·exact (h.set 1 _ (by omega)).set 0 _ (by omega)
 rw [if_neg o8]
 split
 ·exact h.set 0 _ (by omega)
 split
 ·exact h.set 0 _ (by omega)
 ·exact h.set 0 _ (by omega)
theorem zGy {s r:Sta} {x:Ins} {ok:Bool} (hs:s.length=44) (hr:r.length=44) (h:zIv s) (h2:ok=true→zIv r) (hf:(qP s x r ok).2=true):zIv (qP s x r ok).1:=by
 unfold qP at hf ⊢
 split
 ·rename_i a;rw [if_pos a] at hf;exact (h2 hf).set 0 _ (by omega)
 rename_i a
 rw [if_neg a] at hf
 split
 ·rename_i b
  rw [if_pos b] at hf
  refine zIv.set ?_ 0 _ (by omega)
  refine (h2 hf).of fun k hk=>.inl ?_
  rw [zBz s r hs hr,if_pos (by omega),zBz s r hs hr,if_pos (by omega)]
  exact ⟨rfl,rfl⟩
 ·exact h.set 0 _ (by omega)
theorem zKt (E:Env) (hc:codeOk E.c):∀ (N n:Nat) (s:Sta) (kn:List Bool) (room:Int),n≤N→Good E.c.length E.t.size s→0≤room∧room≤5000→zIv s→(look E n s kn room).ok=true→zIv (look E n s kn room).st
 | N,0,s,kn,room,_,h,hr,_,ho=>by rw [zCn] at ho;cases ho
 | 0,n+1,s,kn,room,hn,_,_,_,_=>by omega
 | N+1,n+1,s,kn,room,hn,h,hrm,hg,ho=>by
  have ih:=zKt E hc N
  rw [zAt] at ho ⊢
  have hR:=E.zBU s kn room hrm
  have hpc:((kY s:Nat):Int)=gt s 0:=by have:=h.pc0;unfold kY;omega
  have hi:=hc (kY s) h.zAG
  have hp0:=h.pc0
  by_cases hd:E.dead s kn=true
  ·rw [if_pos hd] at ho;cases ho
  rw [if_neg hd] at ho ⊢
  by_cases h13:(E.ins s).op=13∨(E.ins s).op=12
  ·rw [if_pos h13];exact hg
  rw [if_neg h13] at ho ⊢
  have zRN:(E.c.getD (kY s) jA).op≠13:=fun e=>h13 (.inl e)
  by_cases o2:(E.ins s).op=2
  ·rw [if_pos o2] at ho ⊢
   have i2:=hi.1 o2
   have g1:=vP E hc N n (s.set 0 (E.ins s).x) (E.kn' s kn room) (E.room' s kn room) (by omega) (h.zAl _ i2.1 i2.2.1) hR
   have n1:=zCm E n (s.set 0 (E.ins s).x) (E.kn' s kn room) (E.room' s kn room)
   have k1:=ih n (s.set 0 (E.ins s).x) (E.kn' s kn room) (E.room' s kn room) (by omega) (h.zAl _ i2.1 i2.2.1) hR (hg.set 0 _ (by omega))
   dsimp only at ho ⊢
   generalize look E n (s.set 0 (E.ins s).x) (E.kn' s kn room) (E.room' s kn room)=r at *
   by_cases hro:(r.ok||r.over)=true
   ·rw [if_pos hro] at ho ⊢;exact k1 ho
   ·rw [if_neg hro] at ho ⊢
    exact ih r.n (s.set 0 (E.ins s).y) r.kn r.room (by omega) (h.zAl _ i2.2.2.1 i2.2.2.2) g1.2.2.1 (hg.set 0 _ (by omega)) ho
  rw [if_neg o2] at ho ⊢
  by_cases o11:(E.ins s).op=11
  ·rw [if_pos o11] at ho ⊢
   have i11:=hi.2.2.2.2.2.1 o11
   have hn1:kY s+1<E.c.length:=hi.2.2.2.2.2.2.1 zRN
   have gs:=h.zAl (gt s 0+1) (by omega) (by omega)
   have g1:=vP E hc N n (s.set 0 (gt s 0+1)) (E.kn' s kn room) (E.room' s kn room) (by omega) gs hR
   have n1:=zCm E n (s.set 0 (gt s 0+1)) (E.kn' s kn room) (E.room' s kn room)
   have k1:=ih n (s.set 0 (gt s 0+1)) (E.kn' s kn room) (E.room' s kn room) (by omega) gs hR (hg.set 0 _ (by omega))
   dsimp only at ho ⊢
   generalize look E n (s.set 0 (gt s 0+1)) (E.kn' s kn room) (E.room' s kn room)=r at *
   by_cases hov:r.over=true
   ·rw [if_pos hov] at ho;cases ho
   rw [if_neg hov] at ho ⊢
   by_cases hk:(qP s (E.ins s) r.st r.ok).2=true
   ·rw [if_pos hk] at ho ⊢
    exact ih r.n _ r.kn r.room (by omega) (zBb h g1.1 (E.ins s) i11.1 i11.2.1 hk) g1.2.2.1 (zGy h.len g1.2.2.2.1 hg k1 hk) ho
   ·rw [if_neg hk] at ho;cases ho
  rw [if_neg o11] at ho ⊢
  by_cases hk:(qU E.t s (E.ins s)).2=true
  ·rw [if_pos hk] at ho ⊢
   exact ih n _ _ _ (by omega) (zCo hc h (t:=E.t) o2 o11 zRN hk) hR (zKs h hg (fun e=>hi.2.2.2.2.1 e)) ho
  ·rw [if_neg hk] at ho;cases ho
theorem zQS (t:ByteArray) (q:Sta) (x:Ins) (pc pos a b X:Nat) (ho:x.op=8) (hX:x.x=X) (h0:gt q 0=pc) (h1:gt q 1=pos) (ha:gt q (2+2*X)=a) (hb:gt q (2+(2*X+1))=b) (hab:a≤b) (hbt:b≤t.size) (hpos:pos≤t.size) :
  (qU t q x).2=(if (t.size:Int)<pos+((b-a:Nat):Int) then false else zKr t pos a (b-a))∧((qU t q x).2=true→(qU t q x).1=(q.set 1 ((pos:Int)+((b-a:Nat):Int))).set 0 ((pc:Int)+1)):=by
 unfold qU
 rw [if_neg (by omega),if_neg (by omega),if_neg (by omega),if_neg (by omega),if_neg (by omega),if_neg (by omega),if_pos ho]
 unfold zBT
 have e1:(2*x.x).toNat=2*X:=by omega
 have e2:(2*x.x+1).toNat=2*X+1:=by omega
 rw [e1,e2,ha,hb,h0,h1,if_neg (by omega)]
 by_cases hlt:(t.size:Int)<pos+((b-a:Nat):Int)
 ·rw [if_pos (show (t.size:Int)<(pos:Int)+((b:Int)-(a:Int)) by omega),if_pos hlt]
  exact ⟨rfl,fun e=>by cases e⟩
 ·rw [if_neg (show ¬ (t.size:Int)<(pos:Int)+((b:Int)-(a:Int)) by omega),if_neg hlt]
  refine ⟨?_,fun _=>?_⟩
  ·dsimp only
   rw [zIs t pos a (b-a) (by omega) (by omega)]
   simp only [Int.toNat_natCast]
   rw [show a+(b-a)=b by omega,show pos+b-a=pos+(b-a) by omega]
  ·dsimp only
   rw [show (pos:Int)+(b:Int)-(a:Int)=(pos:Int)+((b-a:Nat):Int) by omega]
theorem zQT (t:ByteArray) (q:Sta) (x:Ins) (X:Nat) (ho:x.op=8) (hX:x.x=X) (ha:gt q (2+2*X)=-1):(qU t q x).2=false:=by
 unfold qU
 rw [if_neg (by omega),if_neg (by omega),if_neg (by omega),if_neg (by omega),if_neg (by omega),if_neg (by omega),if_pos ho]
 unfold zBT
 have e1:(2*x.x).toNat=2*X:=by omega
 rw [e1,ha,if_pos (by omega)]
end Mt
namespace Go.Proofs.YtebpgfodelggoaaGreat
open Go.RowKit
section
variable {k:Pk} {w:World} {steps:Int} {hd:List Bool} {room:Int} {wo:Option Addr} {wc:Nat} {W:List (List Int)}
theorem zL.drewN (h:zL k w steps hd room wo wc W) (n:Nat):zL k (w.drewN n) steps hd room wo wc W:=h.same rfl rfl rfl rfl rfl (fun _ _=>rfl)
theorem zHi (h:zL k w steps hd room wo wc W) (q:List Int) (hq:q.length=43) (x:Mt.Ins) (X:Nat) (n1:(x.op==1)=false) (ho:(x.op==8)=true) (hX:x.x=X) (hX9:X<10) (b:Int) (hbb:-100≤b∧b≤100) (ha:Mt.gt q (2+2*X)=-1) (hb:Mt.gt q (2+(2*X+1))=b) :
  Calls Tryz.prog 100 #[.pointer (some ⟨k.g,0,none⟩),.agg (stA q),.agg (qG x)] w fun e w'=>e=.returned (.tuple #[])∧Waits k wo w steps hd room W w':=by
 obtain ⟨W1,hW1,B1,T1,U1,Z1⟩:=zBJ w q x
 have HP0:Hid (zL k w steps hd room wo wc W):=h
 have xa:W1.cell? ⟨w.heap.size,2+2*X,none⟩=some (.int .i64 (-1)):=by rw [(zA T1).1 _,← ha];exact qF q _ (by omega)
 have xb:W1.cell? ⟨w.heap.size,2+(2*X+1),none⟩=some (.int .i64 b):=by rw [(zA T1).1 _,← hb];exact qF q _ (by omega)
 have i0:W1.cell? ⟨w.heap.size+1,0,none⟩=some (.int .i64 x.op):=(zA U1).1 0
 have i1:W1.cell? ⟨w.heap.size+1,1,none⟩=some (.int .i64 (X:Nat)):=by rw [← hX];exact (zA U1).1 1
 have HB1:Hid (Below w.heap.size w W1):=B1
 have hne:((-1:Int) != -1)=false:=by decide
 have h20:(2*(X:Int)+1)<20:=by omega
 clear h B1 U1 T1 ha hb hX
 generalize hgg:k.g=g at *
 go_enter Tryz.func100,Tryz.ntmps100
 go_upto_region 1 with fail
 rw [← hW1]
 clear hW1
 generalize hnn:w.heap.size=n at *
 go_wp2_with fail
 go_quiet (fail)
 go_wp2_with fail
 go_quiet (fail)
 go_wp2_with fail
 go_returns
 refine ⟨rfl,?_⟩
 exact zAk HP0.out (by rw [hnn];exact below_drewN (below_drewN HB1.out _) _)
theorem zGz {P:Program} {f:FuncId} {args:Array Value} {X:World} {a b:Nat} {v:Value} (h:Calls P f args (X.drewN (a+b)) fun e w'=>e=.returned v∧∃ m,w'=(X.drewN (a+b)).drewN m) :
  Calls P f args (X.drewN (a+b)) fun e w''=>e=.returned v∧∃ n,w''=X.drewN (a+n):=h.mono fun _ _ hh=>⟨hh.1,by obtain ⟨m,e⟩:=hh.2;exact ⟨b+m,by rw [e,World.drewN_drewN,Nat.add_assoc]⟩⟩
theorem zHj (h:zL k w steps hd room wo wc W) (q:List Int) (hq:q.length=43) (pc pos:Nat) (hp0:Mt.gt q 0=pc) (hp1:Mt.gt q 1=pos) (hpc:pc≤300) (hpos:pos≤k.t.size) (ht:k.t.size≤60) (hn:W.length≤100000) (x:Mt.Ins) (X:Nat) (n1:(x.op==1)=false) (ho:(x.op==8)=true) (hX:x.x=X) (hX9:X<10) (a b:Nat) (ha:Mt.gt q (2+2*X)=a) (hb:Mt.gt q (2+(2*X+1))=b) (hab:a≤b) (hbt:b≤k.t.size) :
  Calls Tryz.prog 100 #[.pointer (some ⟨k.g,0,none⟩),.agg (stA q),.agg (qG x)] w fun e w'=>e=.returned (.tuple #[])∧Waits k wo w steps hd room (zCV W (Mt.qU k.t q x).2 (Mt.qU k.t q x).1) w':=by
 obtain ⟨HE1,HE2⟩:=Mt.zQS k.t q x pc pos a b X (by simpa using ho) hX hp0 hp1 ha hb hab hbt hpos
 obtain ⟨W1,hW1,B1,T1,U1,Z1⟩:=zBJ w q x
 have HP0:Hid (zL k w steps hd room wo wc W):=h
 have HP1:zL k W1 steps hd room wo wc W:=h.below B1
 obtain ⟨L,hL⟩:∃ L:Nat,L=b-a:=⟨_,rfl⟩
 rw [← hL] at HE1 HE2
 have HAG:Hid (∀ N,Calls Tryz.prog 124 #[.pointer (some ⟨k.g,0,none⟩),.int .i64 (pos:Nat),.int .i64 (a:Nat),.int .i64 ((b:Int)-a)] (W1.drewN N) fun e w'=>e=.returned (.bool (Mt.qU k.t q x).2)∧∃ m,w'=(W1.drewN N).drewN m):=fun N=>by
  have:=zHh (HP1.drewN N) pos a L ht hpos (by omega)
  rw [show ((b:Int)-a)=(L:Int) by omega,HE1];exact this
 have x0:W1.cell? ⟨w.heap.size,0,none⟩=some (.int .i64 pc):=by rw [(zA T1).1 _,← hp0];exact qF q _ (by omega)
 have x1:W1.cell? ⟨w.heap.size,1,none⟩=some (.int .i64 pos):=by rw [(zA T1).1 _,← hp1];exact qF q _ (by omega)
 have f1:W1.frozen? ⟨w.heap.size,1,none⟩=false:=(zA T1).2 1
 have xa:W1.cell? ⟨w.heap.size,2+2*X,none⟩=some (.int .i64 a):=by rw [(zA T1).1 _,← ha];exact qF q _ (by omega)
 have xb:W1.cell? ⟨w.heap.size,2+(2*X+1),none⟩=some (.int .i64 b):=by rw [(zA T1).1 _,← hb];exact qF q _ (by omega)
 have i0:W1.cell? ⟨w.heap.size+1,0,none⟩=some (.int .i64 x.op):=(zA U1).1 0
 have i1:W1.cell? ⟨w.heap.size+1,1,none⟩=some (.int .i64 (X:Nat)):=by rw [← hX];exact (zA U1).1 1
 have HB1:Hid (Below w.heap.size w W1):=B1
 have hne:((a:Int) != -1)=true:=by rw [bne_iff_ne];omega
 have h20:(2*(X:Int)+1)<20:=by omega
 have HT3:Hid (∀ N,((W1.drewN N).setCell ⟨w.heap.size,1,none⟩ (.int .i64 ((pos:Int)+((b:Int)-a)))).heap[w.heap.size]?=some (.cells (stA (q.set 1 ((pos:Int)+((b:Int)-a)))) 83 (0,0))):=fun N=>by
  rw [← zBh q hq];exact Go.heap_setCell_same (W1.drewN N) w.heap.size 1 _ _ _ T1
 have HB3:Hid (∀ N,Below w.heap.size w ((W1.drewN N).setCell ⟨w.heap.size,1,none⟩ (.int .i64 ((pos:Int)+((b:Int)-a))))):=fun N=>(below_drewN B1 N).setCell (p:=⟨w.heap.size,1,none⟩) (Nat.le_refl _) _
 have HWT:Hid (∀ N,Calls Tryz.prog 68 #[.pointer (some ⟨k.g,0,none⟩),.agg (stA (q.set 1 ((pos:Int)+((b:Int)-a)))),.int .i64 ((pc:Int)+1)] ((W1.drewN N).setCell ⟨w.heap.size,1,none⟩ (.int .i64 ((pos:Int)+((b:Int)-a)))) fun e w'=>e=.returned (.tuple #[])∧∃ wo' wc',zL k w' steps hd room wo' wc' (W++[(q.set 1 ((pos:Int)+((b:Int)-a))).set 0 ((pc:Int)+1)])∧kW k wo wo' ((W1.drewN N).setCell ⟨w.heap.size,1,none⟩ (.int .i64 ((pos:Int)+((b:Int)-a)))) w') :=
  fun N=>zAR (q.set 1 ((pos:Int)+((b:Int)-a))) ((pc:Int)+1) (by simp [hq]) (HP0.out.below (HB3.out N)) (by omega)
 have HLE:Hid ((b:Int)-a=(L:Int)):=by show _=_;omega
 have zTE:Hid ((Mt.qU k.t q x).2=true→(Mt.qU k.t q x).1=(q.set 1 ((pos:Int)+((b:Int)-a))).set 0 ((pc:Int)+1)):=by rw [HLE.out];exact HE2
 have ht2:(b:Int)≤60:=by omega
 clear h B1 U1 T1 ha hb hX HE1 HE2 HP1 hL HLE
 generalize (Mt.qU k.t q x).1=q2 at *
 generalize hr:(Mt.qU k.t q x).2=r at *
 generalize hgg:k.g=g at *
 go_enter Tryz.func100,Tryz.ntmps100
 go_upto_region 1 with fail
 rw [← hW1]
 clear hW1
 generalize hnn:w.heap.size=n at *
 cases r
 ·go_wp2_with fail
  go_quiet (fail)
  go_wp2_with fail
  go_quiet ((go_at_call 124;exact zGz (HAG.out _)))
  go_wp2_with fail
  go_returns
  refine ⟨rfl,?_⟩
  rw [zA7]
  exact zAk HP0.out (by rw [hnn];exact below_drewN (below_drewN HB1.out _) _)
 ·have e2:=zTE.out rfl
  subst e2
  go_wp2_with fail
  go_quiet (fail)
  go_wp2_with fail
  go_quiet ((go_at_call 124;exact zGz (HAG.out _)))
  go_wp2_with (refine zZ 83 43 Tryz.underlying83 rfl Tryz.sizeSt (by rfl) (.tmp 4) (by rfl) n (by rfl) (HT3.out _) (zQ _) ?_)
  refine (HWT.out _).mono ?_
  rintro e w4 ⟨rfl,wo',wc',hP,hS⟩
  have HF:Hid (Waits k wo w steps hd room (W++[(q.set 1 ((pos:Int)+((b:Int)-a))).set 0 ((pc:Int)+1)]) w4):=⟨wo',wc',hP,(kW.below (by rw [hnn];exact HB3.out _)).trans hS⟩
  clear hP hS
  go_wp2_with fail
  go_returns
  exact ⟨rfl,by rw [vQ];exact HF.out⟩
end
structure zHv (k:Pk) (A:Int→Mt.Att) (s q:List Int):Prop where
 good:Mt.Good k.c.length k.t.size s
 sim:Mt.Sim A s q
 neg:Mt.zIv s
def zNB (k:Pk) (wo:Option Addr) (w w':World) (bound:Nat):Prop:=∃ hd' room' wo' wc' W',zL k w' (k.budget+1) hd' room' wo' wc' W'∧kW k wo wo' w w'∧W'.length≤bound
def Left (k:Pk) (E:Mt.Env) (wo:Option Addr) (w w':World) (r:Mt.Res) (W:List (List Int)):Prop:=∃ hd' wo' wc',zL k w' (k.budget-r.n) hd' r.room wo' wc' W∧kW k wo wo' w w'∧Mt.Tab E hd' r.kn
def zD6 (k:Pk) (E:Mt.Env) (A:Int→Mt.Att) (r:Mt.Res) (bound:Nat) (wo:Option Addr) (w:World) (W:List (List Int)) (q':List Int) (b:Bool) (w':World):Prop :=
 q'.length=43∧((r.over=true∧zNB k wo w w' bound)∨(r.over=false∧b=r.ok∧(r.ok=true→Mt.Sim A r.st q')∧Left k E wo w w' r W))
def zRP (k:Pk) (E:Mt.Env) (A:Int→Mt.Att) (m:Nat):Prop:=∀ (w:World) (hd kn:List Bool) (room:Int) (wo:Option Addr) (wc:Nat) (W:List (List Int)) (s q:List Int),
 zL k w (k.budget+1-m) hd room wo wc W→Mt.Tab E hd kn→kn.length=E.c.length*(E.t.size+1)*12→0≤room∧room≤5000→zHv k A s q→W.length+3*m+1≤50000→(m:Int)≤k.budget+1 →
 Calls Tryz.prog 40 #[.pointer (some ⟨k.g,0,none⟩),.agg (stA q)] w fun e w'=>∃ q' b,e=.returned (.tuple #[.agg (stA q'),.bool b])∧zD6 k E A (Mt.look E (m-1) s kn room) (W.length+3*m+1) wo w W q' b w'
def zFF (q e:List Int) (i j:Nat):List Int:=(List.range 43).map fun t=>if i≤t∧t<j then Mt.gt e t else Mt.gt q t
theorem zFG (q e:List Int) (i j t:Nat) (h:t<43):Mt.gt (zFF q e i j) t=if i≤t∧t<j then Mt.gt e t else Mt.gt q t:=by
 unfold Mt.gt zFF
 rw [List.getD_eq_getElem?_getD,List.getElem?_map,List.getElem?_range h]
 rfl
theorem zNC {q e:List Int} (h:∀ t,t<43→Mt.gt q t=Mt.gt e t):stA q=stA e:=by
 unfold stA stC
 congr 1
 apply List.map_congr_left
 intro t ht
 rw [h t (List.mem_range.1 ht)]
theorem zPm (q e:List Int) (hq:q.length=43) (he:e.length=43):stA (zFF (zFF q e 2 22) e 22 32)=stA (Mt.zCP q e):=by
 refine zNC fun t ht=>?_
 rw [zFG _ _ _ _ _ ht,zFG _ _ _ _ _ ht,Mt.zFB q e hq he]
 by_cases h1:2≤t∧t<22
 ·rw [if_neg (by omega),if_pos h1,if_pos (by omega)]
 ·by_cases h2:22≤t∧t<32
  ·rw [if_pos h2,if_pos (by omega)]
  ·rw [if_neg h2,if_neg h1,if_neg (by omega)]
theorem zFH {w:World} {b:Nat} {q e:List Int} (hb:w.heap[b]?=some (.cells (stA q) 83 (0,0))) (i n:Nat) (hn:i+n≤43) :
  (w.setCells b i (((stC e).drop i).take n)).heap[b]?=some (.cells (stA (zFF q e i (i+n))) 83 (0,0)):=by
 obtain ⟨D,h1,h2⟩:=zCt b 83 (((stC e).drop i).take n) i w _ hb
 rw [h1]
 have hl:(((stC e).drop i).take n).length=n:=by rw [List.length_take,List.length_drop,zB6];omega
 have hcb:=zA hb
 have hD:=zA h1
 have hsz:D.size=43:=by rw [h2,zQ]
 have:D=stA (zFF q e i (i+n)):=by
  apply Array.ext (by rw [hsz,zQ])
  intro t ht1 ht2
  have ht:t<43:=by omega
  have a1:=hD.1 t
  rw [Array.getElem?_eq_getElem ht1] at a1
  have a2:=qF (zFF q e i (i+n)) t ht
  rw [Array.getElem?_eq_getElem ht2,zFG _ _ _ _ _ ht] at a2
  by_cases hin:i≤t∧t<i+n
  ·rw [if_pos hin] at a2
   have:=World.cell?_setCells_in b (((stC e).drop i).take n) i w (fun j hj=>by rw [hcb.1];rw [qF q _ (by omega)];rfl) (t-i) (by omega)
   rw [show i+(t-i)=t by omega] at this
   rw [this] at a1
   have a3:(((stC e).drop i).take n)[t-i]?=some (.int .i64 (Mt.gt e t)):=by
    rw [List.getElem?_take_of_lt (by omega),List.getElem?_drop,show i+(t-i)=t by omega]
    simp [stC,ht]
   rw [List.getElem?_eq_getElem (by omega)] at a3
   rw [a3] at a1
   rw [a1] at a2
   injection a2 with a2
   exact a2.symm
  ·rw [if_neg hin] at a2
   have:=World.cell?_setCells_out b (((stC e).drop i).take n) i w ⟨b,t,none⟩ (fun _ _=>by
    dsimp only
    rcases Nat.lt_or_ge t i with h | h
    ·exact Or.inl h
    ·exact Or.inr (by omega))
   rw [this,hcb.1,qF q t ht] at a1
   injection a1 with a1
   injection a2 with a2
   rw [← a1,← a2]
 rw [this]
theorem zBK {w:World} {b i:Nat} {vs:List Value} (j:Nat) (h:j≠b):(w.setCells b i vs).heap[j]?=w.heap[j]?:=jQ b vs i w j h
theorem Tryz.underArr20:(Tryz.prog.info? 27).map (·.size)=some 20:=by kernel_rfl
theorem Tryz.underArr10:(Tryz.prog.info? 80).map (·.size)=some 10:=by kernel_rfl
theorem zDF {w:World} {b:Nat} {e:List Int} (h:w.heap[b]?=some (.cells (stA e) 83 (0,0))) (i n:Nat):w.rangeAt b i (((stC e).drop i).take n):=fun j v hv=>by
 rw [(zA h).1]
 have:(stC e)[i+j]?=some v:=by
  rw [List.getElem?_take] at hv
  split at hv
  ·rwa [List.getElem?_drop] at hv
  ·cases hv
 simpa [stA] using this
end Go.Proofs.YtebpgfodelggoaaGreat
