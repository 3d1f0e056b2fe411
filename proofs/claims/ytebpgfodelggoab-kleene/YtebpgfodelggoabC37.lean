import Derived.Test.YtebpgfodelggoabC36
import Derived.Test.YtebpgfodelggoabC13
set_option linter.unusedVariables false
set_option linter.unusedSimpArgs false
set_option maxRecDepth 100000
set_option maxHeartbeats 4000000
namespace Go.Proofs.Ytebpgfodelggoab
open Go.RowKit
section
variable {k:Pk} {w:World} {steps:Int} {hd:List Bool} {room:Int} {wo:Option Addr} {wc:Nat} {W:List (List Int)}
theorem PlayAt.drewN (h:PlayAt k w steps hd room wo wc W) (n:Nat):PlayAt k (w.drewN n) steps hd room wo wc W:=h.same rfl rfl rfl rfl rfl (fun _ _=>rfl)
theorem compare_back0 (h:PlayAt k w steps hd room wo wc W) (q:List Int) (hq:q.length=43) (x:Mt.Ins) (X:Nat) (n1:(x.op==1)=false) (ho:(x.op==8)=true) (hX:x.x=X) (hX9:X<10) (b:Int) (hbb:-100≤b∧b≤100) (ha:Mt.gt q (2+2*X)=-1) (hb:Mt.gt q (2+(2*X+1))=b) :
  Calls Try.prog 72 #[.pointer (some ⟨k.g,0,none⟩),.agg (stA q),.agg (insA x)] w fun e w'=>e=.returned (.tuple #[])∧Waits k wo w steps hd room W w':=by
 obtain ⟨W1,hW1,B1,T1,U1,Z1⟩:=two_boxes w q x
 have HP0:Hid (PlayAt k w steps hd room wo wc W):=h
 have xa:W1.cell? ⟨w.heap.size,2+2*X,none⟩=some (.int .i64 (-1)):=by rw [(cell_block T1).1 _,← ha];exact stA_at q _ (by omega)
 have xb:W1.cell? ⟨w.heap.size,2+(2*X+1),none⟩=some (.int .i64 b):=by rw [(cell_block T1).1 _,← hb];exact stA_at q _ (by omega)
 have i0:W1.cell? ⟨w.heap.size+1,0,none⟩=some (.int .i64 x.op):=(cell_block U1).1 0
 have i1:W1.cell? ⟨w.heap.size+1,1,none⟩=some (.int .i64 (X:Nat)):=by rw [← hX];exact (cell_block U1).1 1
 have HB1:Hid (Below w.heap.size w W1):=B1
 have hne:((-1:Int) != -1)=false:=by decide
 have h20:(2*(X:Int)+1)<20:=by omega
 clear h B1 U1 T1 ha hb hX
 generalize hgg:k.g=g at *
 go_enter Try.func72,Try.ntmps72
 go_upto_region 1 with fail
 rw [← hW1]
 clear hW1
 generalize hnn:w.heap.size=n at *
 go_wp2_with fail
 go_quiet (fail)
 go_wp2_with fail
 go_quiet (fail)
 go_wp2_with fail
 go_returns
 refine ⟨rfl,?_⟩
 exact waits_none HP0.out (by rw [hnn];exact below_drewN (below_drewN HB1.out _) _)
theorem quiet_more {P:Program} {f:FuncId} {args:Array Value} {X:World} {a b:Nat} {v:Value} (h:Calls P f args (X.drewN (a+b)) fun e w'=>e=.returned v∧∃ m,w'=(X.drewN (a+b)).drewN m) :
  Calls P f args (X.drewN (a+b)) fun e w''=>e=.returned v∧∃ n,w''=X.drewN (a+n):=h.mono fun _ _ hh=>⟨hh.1,by obtain ⟨m,e⟩:=hh.2;exact ⟨b+m,by rw [e,World.drewN_drewN,Nat.add_assoc]⟩⟩
theorem compare_back1 (h:PlayAt k w steps hd room wo wc W) (q:List Int) (hq:q.length=43) (pc pos:Nat) (hp0:Mt.gt q 0=pc) (hp1:Mt.gt q 1=pos) (hpc:pc≤300) (hpos:pos≤k.t.size) (ht:k.t.size≤60) (hn:W.length≤100000) (x:Mt.Ins) (X:Nat) (n1:(x.op==1)=false) (ho:(x.op==8)=true) (hX:x.x=X) (hX9:X<10) (a b:Nat) (ha:Mt.gt q (2+2*X)=a) (hb:Mt.gt q (2+(2*X+1))=b) (hab:a≤b) (hbt:b≤k.t.size) :
  Calls Try.prog 72 #[.pointer (some ⟨k.g,0,none⟩),.agg (stA q),.agg (insA x)] w fun e w'=>e=.returned (.tuple #[])∧Waits k wo w steps hd room (addIf W (Mt.oneP k.t q x).2 (Mt.oneP k.t q x).1) w':=by
 obtain ⟨HE1,HE2⟩:=Mt.back_is k.t q x pc pos a b X (by simpa using ho) hX hp0 hp1 ha hb hab hbt hpos
 obtain ⟨W1,hW1,B1,T1,U1,Z1⟩:=two_boxes w q x
 have HP0:Hid (PlayAt k w steps hd room wo wc W):=h
 have HP1:PlayAt k W1 steps hd room wo wc W:=h.below B1
 obtain ⟨L,hL⟩:∃ L:Nat,L=b-a:=⟨_,rfl⟩
 rw [← hL] at HE1 HE2
 have HAG:Hid (∀ N,Calls Try.prog 90 #[.pointer (some ⟨k.g,0,none⟩),.int .i64 (pos:Nat),.int .i64 (a:Nat),.int .i64 ((b:Int)-a)] (W1.drewN N) fun e w'=>e=.returned (.bool (Mt.oneP k.t q x).2)∧∃ m,w'=(W1.drewN N).drewN m):=fun N=>by
  have:=hasAgain_prog (HP1.drewN N) pos a L ht hpos (by omega)
  rw [show ((b:Int)-a)=(L:Int) by omega,HE1];exact this
 have x0:W1.cell? ⟨w.heap.size,0,none⟩=some (.int .i64 pc):=by rw [(cell_block T1).1 _,← hp0];exact stA_at q _ (by omega)
 have x1:W1.cell? ⟨w.heap.size,1,none⟩=some (.int .i64 pos):=by rw [(cell_block T1).1 _,← hp1];exact stA_at q _ (by omega)
 have f1:W1.frozen? ⟨w.heap.size,1,none⟩=false:=(cell_block T1).2 1
 have xa:W1.cell? ⟨w.heap.size,2+2*X,none⟩=some (.int .i64 a):=by rw [(cell_block T1).1 _,← ha];exact stA_at q _ (by omega)
 have xb:W1.cell? ⟨w.heap.size,2+(2*X+1),none⟩=some (.int .i64 b):=by rw [(cell_block T1).1 _,← hb];exact stA_at q _ (by omega)
 have i0:W1.cell? ⟨w.heap.size+1,0,none⟩=some (.int .i64 x.op):=(cell_block U1).1 0
 have i1:W1.cell? ⟨w.heap.size+1,1,none⟩=some (.int .i64 (X:Nat)):=by rw [← hX];exact (cell_block U1).1 1
 have HB1:Hid (Below w.heap.size w W1):=B1
 have hne:((a:Int) != -1)=true:=by rw [bne_iff_ne];omega
 have h20:(2*(X:Int)+1)<20:=by omega
 have HT3:Hid (∀ N,((W1.drewN N).setCell ⟨w.heap.size,1,none⟩ (.int .i64 ((pos:Int)+((b:Int)-a)))).heap[w.heap.size]?=some (.cells (stA (q.set 1 ((pos:Int)+((b:Int)-a)))) 100 (0,0))):=fun N=>by
  rw [← stA_set q hq];exact Go.heap_setCell_same (W1.drewN N) w.heap.size 1 _ _ _ T1
 have HB3:Hid (∀ N,Below w.heap.size w ((W1.drewN N).setCell ⟨w.heap.size,1,none⟩ (.int .i64 ((pos:Int)+((b:Int)-a))))):=fun N=>(below_drewN B1 N).setCell (p:=⟨w.heap.size,1,none⟩) (Nat.le_refl _) _
 have HWT:Hid (∀ N,Calls Try.prog 57 #[.pointer (some ⟨k.g,0,none⟩),.agg (stA (q.set 1 ((pos:Int)+((b:Int)-a)))),.int .i64 ((pc:Int)+1)] ((W1.drewN N).setCell ⟨w.heap.size,1,none⟩ (.int .i64 ((pos:Int)+((b:Int)-a)))) fun e w'=>e=.returned (.tuple #[])∧∃ wo' wc',PlayAt k w' steps hd room wo' wc' (W++[(q.set 1 ((pos:Int)+((b:Int)-a))).set 0 ((pc:Int)+1)])∧PStep k wo wo' ((W1.drewN N).setCell ⟨w.heap.size,1,none⟩ (.int .i64 ((pos:Int)+((b:Int)-a)))) w') :=
  fun N=>wait_prog (q.set 1 ((pos:Int)+((b:Int)-a))) ((pc:Int)+1) (by simp [hq]) (HP0.out.below (HB3.out N)) (by omega)
 have HLE:Hid ((b:Int)-a=(L:Int)):=by show _=_;omega
 have HE2H:Hid ((Mt.oneP k.t q x).2=true→(Mt.oneP k.t q x).1=(q.set 1 ((pos:Int)+((b:Int)-a))).set 0 ((pc:Int)+1)):=by rw [HLE.out];exact HE2
 have ht2:(b:Int)≤60:=by omega
 clear h B1 U1 T1 ha hb hX HE1 HE2 HP1 hL HLE
 generalize (Mt.oneP k.t q x).1=q2 at *
 generalize hr:(Mt.oneP k.t q x).2=r at *
 generalize hgg:k.g=g at *
 go_enter Try.func72,Try.ntmps72
 go_upto_region 1 with fail
 rw [← hW1]
 clear hW1
 generalize hnn:w.heap.size=n at *
 cases r
 ·go_wp2_with fail
  go_quiet (fail)
  go_wp2_with fail
  go_quiet ((go_at_call 90;exact quiet_more (HAG.out _)))
  go_wp2_with fail
  go_returns
  refine ⟨rfl,?_⟩
  rw [addIf_no]
  exact waits_none HP0.out (by rw [hnn];exact below_drewN (below_drewN HB1.out _) _)
 ·have e2:=HE2H.out rfl
  subst e2
  go_wp2_with fail
  go_quiet (fail)
  go_wp2_with fail
  go_quiet ((go_at_call 90;exact quiet_more (HAG.out _)))
  go_wp2_with (refine load_blk 100 43 Try.underlying100 rfl Try.sizeSt (by rfl) (.tmp 4) (by rfl) n (by rfl) (HT3.out _) (stA_size _) ?_)
  refine (HWT.out _).mono ?_
  rintro e w4 ⟨rfl,wo',wc',hP,hS⟩
  have HF:Hid (Waits k wo w steps hd room (W++[(q.set 1 ((pos:Int)+((b:Int)-a))).set 0 ((pc:Int)+1)]) w4):=⟨wo',wc',hP,(PStep.below (by rw [hnn];exact HB3.out _)).trans hS⟩
  clear hP hS
  go_wp2_with fail
  go_returns
  exact ⟨rfl,by rw [addIf_yes];exact HF.out⟩
end
structure Fine (k:Pk) (A:Int→Mt.Att) (s q:List Int):Prop where
 good:Mt.Good k.c.length k.t.size s
 sim:Mt.Sim A s q
 neg:Mt.Neg1 s
def OverAt (k:Pk) (wo:Option Addr) (w w':World) (bound:Nat):Prop:=∃ hd' room' wo' wc' W',PlayAt k w' (k.budget+1) hd' room' wo' wc' W'∧PStep k wo wo' w w'∧W'.length≤bound
theorem OverAt.more {k:Pk} {wo:Option Addr} {w w':World} {a b:Nat} (h:OverAt k wo w w' a) (hab:a≤b):OverAt k wo w w' b:=by
 obtain ⟨h1,h2,h3,h4,h5,h6,h7,h8⟩:=h
 exact ⟨h1,h2,h3,h4,h5,h6,h7,by omega⟩
theorem OverAt.after {k:Pk} {wo wo1:Option Addr} {w w1 w':World} {a:Nat} (h:OverAt k wo1 w1 w' a) (hs:PStep k wo wo1 w w1):OverAt k wo w w' a:=by
 obtain ⟨h1,h2,h3,h4,h5,h6,h7,h8⟩:=h
 exact ⟨h1,h2,h3,h4,h5,h6,hs.trans h7,h8⟩
def Left (k:Pk) (E:Mt.Env) (wo:Option Addr) (w w':World) (r:Mt.Res) (W:List (List Int)):Prop:=∃ hd' wo' wc',PlayAt k w' (k.budget-r.n) hd' r.room wo' wc' W∧PStep k wo wo' w w'∧Mt.Tab E hd' r.kn
def RunPost (k:Pk) (E:Mt.Env) (A:Int→Mt.Att) (r:Mt.Res) (bound:Nat) (wo:Option Addr) (w:World) (W:List (List Int)) (q':List Int) (b:Bool) (w':World):Prop :=
 q'.length=43∧((r.over=true∧OverAt k wo w w' bound)∨(r.over=false∧b=r.ok∧(r.ok=true→Mt.Sim A r.st q')∧Left k E wo w w' r W))
def RunK (k:Pk) (E:Mt.Env) (A:Int→Mt.Att) (m:Nat):Prop:=∀ (w:World) (hd kn:List Bool) (room:Int) (wo:Option Addr) (wc:Nat) (W:List (List Int)) (s q:List Int),
 PlayAt k w (k.budget+1-m) hd room wo wc W→Mt.Tab E hd kn→kn.length=E.c.length*(E.t.size+1)*12→0≤room∧room≤5000→Fine k A s q→W.length+3*m+1≤50000→(m:Int)≤k.budget+1 →
 Calls Try.prog 46 #[.pointer (some ⟨k.g,0,none⟩),.agg (stA q)] w fun e w'=>∃ q' b,e=.returned (.tuple #[.agg (stA q'),.bool b])∧RunPost k E A (Mt.look E (m-1) s kn room) (W.length+3*m+1) wo w W q' b w'
def pick43 (q e:List Int) (i j:Nat):List Int:=(List.range 43).map fun t=>if i≤t∧t<j then Mt.gt e t else Mt.gt q t
theorem gt_pick43 (q e:List Int) (i j t:Nat) (h:t<43):Mt.gt (pick43 q e i j) t=if i≤t∧t<j then Mt.gt e t else Mt.gt q t:=by
 unfold Mt.gt pick43
 rw [List.getD_eq_getElem?_getD,List.getElem?_map,List.getElem?_range h]
 rfl
theorem stA_ext {q e:List Int} (h:∀ t,t<43→Mt.gt q t=Mt.gt e t):stA q=stA e:=by
 unfold stA stC
 congr 1
 apply List.map_congr_left
 intro t ht
 rw [h t (List.mem_range.1 ht)]
theorem stA_both (q e:List Int) (hq:q.length=43) (he:e.length=43):stA (pick43 (pick43 q e 2 22) e 22 32)=stA (Mt.withBoth q e):=by
 refine stA_ext fun t ht=>?_
 rw [gt_pick43 _ _ _ _ _ ht,gt_pick43 _ _ _ _ _ ht,Mt.gt_withBoth q e hq he]
 by_cases h1:2≤t∧t<22
 ·rw [if_neg (by omega),if_pos h1,if_pos (by omega)]
 ·by_cases h2:22≤t∧t<32
  ·rw [if_pos h2,if_pos (by omega)]
  ·rw [if_neg h2,if_neg h1,if_neg (by omega)]
theorem part_stored {w:World} {b:Nat} {q e:List Int} (hb:w.heap[b]?=some (.cells (stA q) 100 (0,0))) (i n:Nat) (hn:i+n≤43) :
  (w.setCells b i (((stC e).drop i).take n)).heap[b]?=some (.cells (stA (pick43 q e i (i+n))) 100 (0,0)):=by
 obtain ⟨D,h1,h2⟩:=setCells_blk b 100 (((stC e).drop i).take n) i w _ hb
 rw [h1]
 have hl:(((stC e).drop i).take n).length=n:=by rw [List.length_take,List.length_drop,stC_len];omega
 have hcb:=cell_block hb
 have hD:=cell_block h1
 have hsz:D.size=43:=by rw [h2,stA_size]
 have:D=stA (pick43 q e i (i+n)):=by
  apply Array.ext (by rw [hsz,stA_size])
  intro t ht1 ht2
  have ht:t<43:=by omega
  have a1:=hD.1 t
  rw [Array.getElem?_eq_getElem ht1] at a1
  have a2:=stA_at (pick43 q e i (i+n)) t ht
  rw [Array.getElem?_eq_getElem ht2,gt_pick43 _ _ _ _ _ ht] at a2
  by_cases hin:i≤t∧t<i+n
  ·rw [if_pos hin] at a2
   have:=World.cell?_setCells_in b (((stC e).drop i).take n) i w (fun j hj=>by rw [hcb.1];rw [stA_at q _ (by omega)];rfl) (t-i) (by omega)
   rw [show i+(t-i)=t by omega] at this
   rw [this] at a1
   have a3:(((stC e).drop i).take n)[t-i]?=some (.int .i64 (Mt.gt e t)):=by
    rw [List.getElem?_take_of_lt (by omega),List.getElem?_drop,show i+(t-i)=t by omega]
    simp [stC,ht]
   rw [List.getElem?_eq_getElem (by omega)] at a3
   rw [a3] at a1
   rw [a1] at a2
   injection a2 with a2
   exact a2.symm
  ·rw [if_neg hin] at a2
   have:=World.cell?_setCells_out b (((stC e).drop i).take n) i w ⟨b,t,none⟩ (fun _ _=>by
    dsimp only
    rcases Nat.lt_or_ge t i with h | h
    ·exact Or.inl h
    ·exact Or.inr (by omega))
   rw [this,hcb.1,stA_at q t ht] at a1
   injection a1 with a1
   injection a2 with a2
   rw [← a1,← a2]
 rw [this]
theorem part_other {w:World} {b i:Nat} {vs:List Value} (j:Nat) (h:j≠b):(w.setCells b i vs).heap[j]?=w.heap[j]?:=setCells_oth b vs i w j h
theorem Try.underArr20:(Try.prog.info? 29).map (·.size)=some 20:=by kernel_rfl
theorem Try.underArr10:(Try.prog.info? 97).map (·.size)=some 10:=by kernel_rfl
theorem stC_range {w:World} {b:Nat} {e:List Int} (h:w.heap[b]?=some (.cells (stA e) 100 (0,0))) (i n:Nat):w.rangeAt b i (((stC e).drop i).take n):=fun j v hv=>by
 rw [(cell_block h).1]
 have:(stC e)[i+j]?=some v:=by
  rw [List.getElem?_take] at hv
  split at hv
  ·rwa [List.getElem?_drop] at hv
  ·cases hv
 simpa [stA] using this
abbrev Told:=List Int→Bool→Int→List Bool→Int→List (List Int)→Prop
def RunDone (k:Pk) (wo:Option Addr) (P:Told) (z:World) (q':List Int) (b:Bool) (w':World):Prop:=∃ st' hd' room' wo' wc' W',q'.length=43∧PlayAt k w' st' hd' room' wo' wc' W'∧PStep k wo wo' z w'∧W'.length≤99999∧P q' b st' hd' room' W'
def flagQ (x:Mt.Ins) (b:Bool):Bool:=if x.x=0 then b else if x.x=1 then b else !b
def SubDone (k:Pk) (wo:Option Addr) (P:Told) (w:World) (q:List Int) (x:Mt.Ins) (w':World):Prop:=∃ q' b st' hd' room' wo' wc' W',q'.length=43∧P q' b st' hd' room' W'∧PlayAt k w' st' hd' room' wo' wc' (addIf W' (flagQ x b) (Mt.apartQ q x q'))∧PStep k wo wo' w w'
section
variable {k:Pk} {w:World} {steps:Int} {hd:List Bool} {room:Int} {wo:Option Addr} {wc:Nat} {W:List (List Int)}
structure SubMem (k:Pk) (wo:Option Addr) (P:Told) (w:World) (n m:Nat) (q:List Int) (x:Mt.Ins) (q':List Int) (b:Bool) (w5:World):Prop where
 s:w5.heap[n]?=some (.cells (stA q) 100 (0,0))
 i:w5.heap[n+1]?=some (.cells (insA x) 70 (0,0))
 e:w5.heap[m]?=some (.cells (stA q') 100 (0,0))
 nm:n<m∧n≠m
 done:∃ st' hd' room' wo' wc' W',q'.length=43∧PlayAt k w5 st' hd' room' wo' wc' W'∧PStep k wo wo' w w5∧W'.length≤99999∧P q' b st' hd' room' W'∧(k.g<n∧k.gc<n∧k.gl<n∧k.gs<n∧k.gh<n)∧(∀ z,blk wo'=some z→z≠n)
 hn:n=w.heap.size
theorem playSub_prog (h:PlayAt k w steps hd room wo wc W) (q:List Int) (hq:q.length=43) (x:Mt.Ins) (pc:Nat) (hp0:Mt.gt q 0=pc) (hpc:pc≤300) (P:Told)
  (hrun:∀ z:World,PlayAt k z steps hd room wo wc W→Calls Try.prog 46 #[.pointer (some ⟨k.g,0,none⟩),.agg (stA (q.set 0 ((pc:Int)+1)))] z fun e w'=>∃ q' b,e=.returned (.tuple #[.agg (stA q'),.bool b])∧RunDone k wo P z q' b w')
  (hxx:(x.x==0)=true∨((x.x==0)=false∧(x.x==1)=true)∨((x.x==0)=false∧(x.x==1)=false∧(x.x==2)=true)) :
  Calls Try.prog 71 #[.pointer (some ⟨k.g,0,none⟩),.agg (stA q),.agg (insA x)] w fun e w'=>e=.returned (.tuple #[])∧SubDone k wo P w q x w':=by
 obtain ⟨W1,hW1,B1,T1,U1,Z1⟩:=two_boxes w q x
 have HP0:Hid (PlayAt k w steps hd room wo wc W):=h
 have HR:Hid (∀ z:World,PlayAt k z steps hd room wo wc W→Calls Try.prog 46 #[.pointer (some ⟨k.g,0,none⟩),.agg (stA (q.set 0 ((pc:Int)+1)))] z fun e w'=>∃ q' b,e=.returned (.tuple #[.agg (stA q'),.bool b])∧RunDone k wo P z q' b w'):=hrun
 have HXX:Hid ((x.x==0)=true∨((x.x==0)=false∧(x.x==1)=true)∨((x.x==0)=false∧(x.x==1)=false∧(x.x==2)=true)):=hxx
 have HU1:Hid (W1.heap[w.heap.size+1]?=some (.cells (insA x) 70 (0,0))):=U1
 have HB1:Hid (Below w.heap.size w W1):=B1
 have HZ1:Hid (W1.heap.size=w.heap.size+2):=Z1
 obtain ⟨hlt⟩:Nonempty (k.g<w.heap.size):=⟨h.lt.1⟩
 clear h hrun hxx U1 B1 Z1
 generalize hgg:k.g=g at *
 go_enter Try.func71,Try.ntmps71
 go_upto_region 1 with fail
 rw [← hW1]
 clear hW1
 generalize hnn:w.heap.size=n at *
 have HT1:Hid (W1.heap[n]?=some (.cells (stA q) 100 (0,0))):=T1
 go_upto_region 2 with (first | (refine load_blk 100 43 Try.underlying100 rfl Try.sizeSt (by rfl) (.tmp 4) (by rfl) n (by rfl) T1 (stA_size _) ?_) | (refine store_blk 100 43 Try.sizeSt (by rfl) (.tmp 6) (.tmp 9) (by rfl) W1.heap.size (stA q) (by rfl) (by rfl) (by exact heap_b1 _ _) (by rfl) (stA_size _) (stA_all _) ?_;intro w2 r1 r2 r3 r4))
 have S2:w2.heap[n]?=some (.cells (stA q) 100 (0,0)):=by rw [r2 n (by have:=HZ1.out;omega),heap_old _ _ _ (by have:=HZ1.out;omega)];exact T1
 have I2:w2.heap[n+1]?=some (.cells (insA x) 70 (0,0)):=by rw [r2 (n+1) (by have:=HZ1.out;omega),heap_old _ _ _ (by have:=HZ1.out;omega)];exact HU1.out
 have B2:Below n w w2:=(HB1.out.alloc (by have:=HZ1.out;omega) _).trans (r4 n (by have:=HZ1.out;omega))
 rw [HZ1.out] at r1
 have Z2:w2.heap.size=n+3:=by rw [r3];simp [HZ1.out]
 have x0:w2.cell? ⟨n,0,none⟩=some (.int .i64 pc):=by rw [(cell_block S2).1 0,← hp0];exact stA_at q 0 (by omega)
 have y0:w2.cell? ⟨n+2,0,none⟩=some (.int .i64 (Mt.gt q 0)):=by rw [(cell_block r1).1 0];exact stA_at q 0 (by omega)
 have f0:w2.frozen? ⟨n+2,0,none⟩=false:=(cell_block r1).2 0
 have F3:(w2.setCell ⟨n+2,0,none⟩ (.int .i64 ((pc:Int)+1))).heap[n+2]?=some (.cells (stA (q.set 0 ((pc:Int)+1))) 100 (0,0)):=by
  rw [← stA_set q hq];exact Go.heap_setCell_same w2 (n+2) 0 _ _ _ r1
 have S3:(w2.setCell ⟨n+2,0,none⟩ (.int .i64 ((pc:Int)+1))).heap[n]?=some (.cells (stA q) 100 (0,0)):=(Below.heap_setCell _ _ _ _ (by show n≠n+2;omega)).trans S2
 have I3:(w2.setCell ⟨n+2,0,none⟩ (.int .i64 ((pc:Int)+1))).heap[n+1]?=some (.cells (insA x) 70 (0,0)):=(Below.heap_setCell _ _ _ _ (by show n+1≠n+2;omega)).trans I2
 have B3:Below n w (w2.setCell ⟨n+2,0,none⟩ (.int .i64 ((pc:Int)+1))):=B2.setCell (p:=⟨n+2,0,none⟩) (by show n≤n+2;omega) _
 have Z3:(w2.setCell ⟨n+2,0,none⟩ (.int .i64 ((pc:Int)+1))).heap.size=n+3:=by simp [World.setCell,Z2]
 have HZ:W1.heap.size=n+2:=HZ1.out
 rw [HZ]
 clear r1 r2 r3 r4 T1 S2 I2 B2 Z2 HT1 HU1 HB1 HZ1
 go_upto_region 3 with fail
 clear x0 y0 f0
 generalize w2.setCell ⟨n+2,0,none⟩ (.int .i64 ((pc:Int)+1))=w3 at *
 have HP3:PlayAt k w3 steps hd room wo wc W:=HP0.out.below (by rw [hnn];exact B3)
 have HRUN:Hid (Calls Try.prog 46 #[.pointer (some ⟨g,0,none⟩),.agg (stA (q.set 0 ((pc:Int)+1)))] w3 fun e w'=>∃ q' b,e=.returned (.tuple #[.agg (stA q'),.bool b])∧RunDone k wo P w3 q' b w'):=HR.out w3 HP3
 have HB3:Hid (Below n w w3):=B3
 have HS3:Hid (w3.heap[n]?=some (.cells (stA q) 100 (0,0))):=S3
 have HI3:Hid (w3.heap[n+1]?=some (.cells (insA x) 70 (0,0))):=I3
 clear HP3 B3 S3 I3 HR
 go_wp2_with (refine load_blk 100 43 Try.underlying100 rfl Try.sizeSt (by rfl) (.tmp 6) (by rfl) (n+2) (by rfl) F3 (stA_size _) ?_)
 refine HRUN.out.mono ?_
 rintro e w4 ⟨q',b,rfl,hD⟩
 have HD:Hid (RunDone k wo P w3 q' b w4):=hD
 clear hD F3 HRUN
 go_upto_region 4 with (refine store_blk 100 43 Try.sizeSt (by rfl) (.tmp 7) (.tmp 18) (by rfl) w4.heap.size (stA q') (by rfl) (by rfl) (by exact heap_b1 _ _) (by rfl) (stA_size _) (stA_all _) ?_;intro w5 r1 r2 r3 r4)
 have HM:Hid (SubMem k wo P w n w4.heap.size q x q' b w5):=by
  obtain ⟨st',hd',room',wo',wc',W',d1,d2,d3,d4,d5⟩:=HD.out
  have hl:=HP0.out.lt
  rw [hnn] at hl
  have hb4:∀ j,n≤j→j<n+3→w5.heap[j]?=w3.heap[j]?:=fun j h1 h2=>by
   have:=d3.size
   rw [r2 j (by omega),heap_old _ _ _ (by omega)]
   exact d3.block j (by omega) (by omega) (by omega) (fun e=>by have:=(hl.2.2.2.2.2 j e).2;omega)
  have hs4:=d3.size
  have B5:Below w4.heap.size w4 w5:=((Below.refl _ _).alloc (Nat.le_refl _) _).trans (r4 _ (Nat.le_refl _))
  refine ⟨(hb4 n (by omega) (by omega)).trans HS3.out,(hb4 (n+1) (by omega) (by omega)).trans HI3.out,r1,by omega,⟨st',hd',room',wo',wc',W',d1,d2.below B5,((PStep.below (by rw [hnn];exact HB3.out)).trans d3).trans (PStep.below B5),d4,d5,by omega,fun z hz e=>?_⟩,hnn.symm⟩
  have:=d3.sub z (by omega) hz
  have:=(hl.2.2.2.2.2 z this).2
  omega
 clear r1 r2 r3 r4 HD HS3 HI3 HB3 HP0 Z3
 generalize w4.heap.size=m at *
 have hcI:=cell_block HM.out.i
 have i1:w5.cell? ⟨n+1,1,none⟩=some (.int .i64 x.x):=hcI.1 1
 have i2:w5.cell? ⟨n+1,2,none⟩=some (.int .i64 x.y):=hcI.1 2
 have E5:=HM.out.e
 have S5:=HM.out.s
 have HNO:Hid (flagQ x b=false→SubDone k wo P w q x w5):=fun hf=>by
  obtain ⟨st',hd',room',wo',wc',W',d1,d2,d3,d4,d5,_⟩:=HM.out.done
  exact ⟨q',b,st',hd',room',wo',wc',W',d1,d5,by rw [hf,addIf_no];exact d2,d3⟩
 have hq':q'.length=43:=by obtain ⟨_,_,_,_,_,_,d1,_⟩:=HM.out.done;exact d1
 have HWT:Hid (∀ (u:List Int) (z:World) (y:Int),u.length=43→Below n w5 z→(∀ j,j≠n→z.heap[j]?=w5.heap[j]?)→Calls Try.prog 57 #[.pointer (some ⟨g,0,none⟩),.agg (stA u),.int .i64 y] z fun e w'=>e=.returned (.tuple #[])∧(flagQ x b=true→u.set 0 y=Mt.apartQ q x q'→SubDone k wo P w q x w')):=fun u z y hu hz hzo=>by
  obtain ⟨st',hd',room',wo',wc',W',d1,d2,d3,d4,d5,d6,d7⟩:=HM.out.done
  have hPz:PlayAt k z st' hd' room' wo' wc' W':=d2.same (hzo _ (by omega)) (hzo _ (by omega)) (hzo _ (by omega)) (hzo _ (by omega)) (hzo _ (by omega)) (fun i hi=>hzo i (d7 i hi))
  have hSz:PStep k wo wo' w z:=by
   refine ⟨hz.os.trans d3.os,hz.tape.trans d3.tape,hz.output.trans d3.output,Nat.le_trans d3.size hz.size,fun i hi h1 h2 h3=>(hzo i (by omega)).trans (d3.block i hi h1 h2 h3),d3.sub⟩
  have:=wait_prog u y hu hPz (by omega)
  rw [hgg] at this
  refine this.mono ?_
  rintro e w' ⟨rfl,wo2,wc2,hP2,hS2⟩
  refine ⟨rfl,fun hf hu2=>⟨q',b,st',hd',room',wo2,wc2,W',d1,d5,?_,hSz.trans hS2⟩⟩
  rw [hf,addIf_yes,← hu2];exact hP2
 clear hcI
 have hnm:=HM.out.nm
 rcases HXX.out with e0 | ⟨e0,e1⟩ | ⟨e0,e1,e2⟩
 ·cases b
  ·go_wp2_with fail
   go_returns
   exact ⟨rfl,HNO.out (by unfold flagQ;rw [if_pos (by simpa using e0)])⟩
  ·go_wp2_with (refine load_blk 100 43 Try.underlying100 rfl Try.sizeSt (by rfl) (.tmp 7) (by rfl) m (by rfl) E5 (stA_size _) ?_)
   refine (HWT.out _ _ _ hq' (Below.refl _ _) (fun _ _=>rfl)).mono ?_
   rintro e w6 ⟨rfl,hF⟩
   have HF:Hid (SubDone k wo P w q x w6):=hF (by unfold flagQ;rw [if_pos (by simpa using e0)]) (by unfold Mt.apartQ;rw [if_pos (by simpa using e0)])
   clear hF
   go_wp2_with fail
   go_returns
   exact ⟨rfl,HF.out⟩
 ·cases b
  ·go_wp2_with fail
   go_returns
   exact ⟨rfl,HNO.out (by unfold flagQ;rw [if_neg (by simpa using e0),if_pos (by simpa using e1)])⟩
  ·have R1:=stC_range E5 2 20
   have TH1:w5.there n 2 20:=fun j hj=>by
    have:=cell_block S5
    rw [this.1,this.2,stA_at q _ (by omega)];exact ⟨rfl,rfl⟩
   have S6:=part_stored (e:=q') S5 2 20 (by omega)
   have E6:(w5.setCells n 2 (((stC q').drop 2).take 20)).heap[m]?=some (.cells (stA q') 100 (0,0)):=(part_other m (by omega)).trans E5
   have I6:(w5.setCells n 2 (((stC q').drop 2).take 20)).heap[n+1]?=some (.cells (insA x) 70 (0,0)):=(part_other (n+1) (by omega)).trans HM.out.i
   have B6:Below n w5 (w5.setCells n 2 (((stC q').drop 2).take 20)):=(below_setCells n _ 2 w5 n (Nat.le_refl _)).1
   have O6:∀ j,j≠n→(w5.setCells n 2 (((stC q').drop 2).take 20)).heap[j]?=w5.heap[j]?:=fun j hj=>part_other j hj
   have l1:(((stC q').drop 2).take 20).toArray.size=20:=by simp [stC]
   have l2:(((stC q').drop 22).take 10).toArray.size=10:=by simp [stC]
   have a1:(((stC q').drop 2).take 20).toArray.all (·.oneCell')=true:=by
    rw [List.all_toArray,List.all_eq_true];intro u hu;exact stC_all q' u (List.mem_of_mem_drop (List.mem_of_mem_take hu))
   have a2:(((stC q').drop 22).take 10).toArray.all (·.oneCell')=true:=by
    rw [List.all_toArray,List.all_eq_true];intro u hu;exact stC_all q' u (List.mem_of_mem_drop (List.mem_of_mem_take hu))
   go_upto_region 11 with (first | (refine wpList_load_mid (by rfl) 29 (.tmp 33) (by rfl) m 2 (by rfl) (((stC q').drop 2).take 20) _ R1 Try.underlying29 rfl (by rw [Try.underArr20,← l1];rfl) ?_) | (refine wpList_store_mid (by rfl) 29 (.tmp 35) (.tmp 34) (by rfl) n 2 (((stC q').drop 2).take 20).toArray (by rfl) (by rfl) (by rw [l1];exact TH1) (by rw [Try.underArr20,l1]) a1 ?_))
   generalize w5.setCells n 2 (((stC q').drop 2).take 20)=w6 at *
   have R2:=stC_range E6 22 10
   have TH2:w6.there n 22 10:=fun j hj=>by
    have:=cell_block S6
    rw [this.1,this.2,stA_at _ _ (by omega)];exact ⟨rfl,rfl⟩
   have S7:=part_stored (e:=q') S6 22 10 (by omega)
   rw [show 2+20=22 from rfl,show 22+10=32 from rfl,stA_both q q' hq hq'] at S7
   have I7:(w6.setCells n 22 (((stC q').drop 22).take 10)).heap[n+1]?=some (.cells (insA x) 70 (0,0)):=(part_other (n+1) (by omega)).trans I6
   have B7:Below n w5 (w6.setCells n 22 (((stC q').drop 22).take 10)):=B6.trans (below_setCells n _ 22 w6 n (Nat.le_refl _)).1
   have O7:∀ j,j≠n→(w6.setCells n 22 (((stC q').drop 22).take 10)).heap[j]?=w5.heap[j]?:=fun j hj=>(part_other j hj).trans (O6 j hj)
   have HB7:Hid (Below n w5 (w6.setCells n 22 (((stC q').drop 22).take 10))):=B7
   have HO7:Hid (∀ j,j≠n→(w6.setCells n 22 (((stC q').drop 22).take 10)).heap[j]?=w5.heap[j]?):=O7
   clear B6 O6 S6 I6 TH1 R1 a1 l1 B7 O7 E5 S5 i1 i2
   go_upto_region 12 with (first | (refine wpList_load_mid (by rfl) 97 (.tmp 36) (by rfl) m 22 (by rfl) (((stC q').drop 22).take 10) _ R2 Try.underlying97 rfl (by rw [Try.underArr10,← l2];rfl) ?_) | (refine wpList_store_mid (by rfl) 97 (.tmp 38) (.tmp 37) (by rfl) n 22 (((stC q').drop 22).take 10).toArray (by rfl) (by rfl) (by rw [l2];exact TH2) (by rw [Try.underArr10,l2]) a2 ?_))
   generalize w6.setCells n 22 (((stC q').drop 22).take 10)=w7 at *
   have i2:w7.cell? ⟨n+1,2,none⟩=some (.int .i64 x.y):=(cell_block I7).1 2
   clear R2 TH2 I7 l2 a2 E6
   go_wp2_with (refine load_blk 100 43 Try.underlying100 rfl Try.sizeSt (by rfl) (.tmp 4) (by rfl) n (by rfl) S7 (stA_size _) ?_)
   refine (HWT.out _ _ _ (Mt.withBoth_len q q' hq hq') HB7.out HO7.out).mono ?_
   rintro e w8 ⟨rfl,hF⟩
   have HF:Hid (SubDone k wo P w q x w8):=hF (by unfold flagQ;rw [if_neg (by simpa using e0),if_pos (by simpa using e1)]) (by unfold Mt.apartQ;rw [if_neg (by simpa using e0),if_pos (by simpa using e1)])
   clear hF
   go_wp2_with fail
   go_returns
   exact ⟨rfl,HF.out⟩
 ·cases b
  ·go_wp2_with (refine load_blk 100 43 Try.underlying100 rfl Try.sizeSt (by rfl) (.tmp 4) (by rfl) n (by rfl) S5 (stA_size _) ?_)
   refine (HWT.out _ _ _ hq (Below.refl _ _) (fun _ _=>rfl)).mono ?_
   rintro e w6 ⟨rfl,hF⟩
   have HF:Hid (SubDone k wo P w q x w6):=hF (by unfold flagQ;rw [if_neg (by simpa using e0),if_neg (by simpa using e1)];rfl) (by unfold Mt.apartQ;rw [if_neg (by simpa using e0),if_neg (by simpa using e1)])
   clear hF
   go_wp2_with fail
   go_returns
   exact ⟨rfl,HF.out⟩
  ·go_wp2_with fail
   go_returns
   exact ⟨rfl,HNO.out (by unfold flagQ;rw [if_neg (by simpa using e0),if_neg (by simpa using e1)];rfl)⟩
end
end Go.Proofs.Ytebpgfodelggoab
