import Derived.Test.YtebpgfodelggoabGreatC01
import Derived.Test.YtebpgfodelggoabGreatC00
import Derived.Deep.MidRow
import Derived.Laws.AppendOwnNone
set_option linter.unusedVariables false
set_option linter.unusedSimpArgs false
set_option maxRecDepth 100000
set_option maxHeartbeats 4000000
namespace Go.Proofs.YtebpgfodelggoabGreat
open Go.RowKit
theorem Tryz.size80:(Tryz.prog.info? 70).map (·.size)=some 7:=by kernel_rfl
theorem qR {ops:Array Oper} {rest:List Oper} {op:Oper} {a:Act} {w:World} {Q:Exit→Act→World→Prop} (hgd:op.guard=none) (x y:Operand) (ho:op.op=.store 70 x y)
  (b:Nat) (t:Mt.Tok) (hx:a.eval x=.pointer (some ⟨b,0,none⟩)) (hy:a.eval y=zAU t) {B:Array Value} (q2:∀ o,w.cell? ⟨b,o,none⟩=B[o]?) (q3:∀ o,w.frozen? ⟨b,o,none⟩=false) (hB:B.size=7)
  (h:∀ w2:World,(∀ o,w2.cell? ⟨b,o,none⟩=#[Value.int .i64 t.kind,.int .i64 t.frm,.int .i64 t.to,.int .i64 t.n,.int .i64 t.m,.int .i64 t.how,.string ⟨t.set.toArray⟩][o]?)→(∀ o,w2.frozen? ⟨b,o,none⟩=false) →
   (∀ c o,c≠b→w2.cell? ⟨c,o,none⟩=w.cell? ⟨c,o,none⟩)→(∀ c o,w2.frozen? ⟨c,o,none⟩=w.frozen? ⟨c,o,none⟩)→w2.heap.size=w.heap.size→(∀ L,L≤b→Below L w w2) →
   wpList Tryz.prog ops Q rest (a.put op.dst undef) w2):wpList Tryz.prog ops Q (op::rest) a w:=by
 obtain ⟨w2,e,h1,h2,h3,h4,h5,h6⟩:=zCo q2 q3 #[Value.int .i64 t.kind,.int .i64 t.frm,.int .i64 t.to,.int .i64 t.n,.int .i64 t.m,.int .i64 t.how,.string ⟨t.set.toArray⟩] (by simp [hB])
 refine wpList_store_mid hgd 70 x y ho b 0 #[Value.int .i64 t.kind,.int .i64 t.frm,.int .i64 t.to,.int .i64 t.n,.int .i64 t.m,.int .i64 t.how,.string ⟨t.set.toArray⟩] hx hy (yS q2 q3 7 (by omega)) Tryz.size80 (by simp [Value.oneCell']) ?_
 rw [← e]
 exact h w2 h1 h2 h3 h4 h5 h6
theorem zE7 (w:World) (b:Nat) (hb':b=w.heap.size) (xs:List Value) (e':TypeId):∀ j u,xs[j]?=some u→(w.alloc (.cells xs.toArray e')).cell? ((⟨b,0,none⟩:Addr).add j)=some u:=by
 subst hb';exact vS w xs e'
theorem zDu (w:World) (a:Addr) (u:Value):w.grownBy (w.setCell a u) (some a.block) :=
 ⟨rfl,rfl,rfl,by simp [World.setCell],fun k _ hne=>Below.heap_setCell _ _ _ _ (fun e=>hne (by rw [e]))⟩
theorem zAH {b:Nat} {w2 w3:World} {o:Obj} {ob:Option Nat} (hg:(w2.alloc o).grownBy w3 ob) (hlt:b<w2.heap.size) (hne:∀ q,ob=some q→q<b) (x:Nat):w3.cell? ⟨b,x,none⟩=w2.cell? ⟨b,x,none⟩:=by
 have h1:w3.heap[b]?=(w2.alloc o).heap[b]?:=hg.block b (by simp;omega) (fun e=>by have:=hne b e.symm;omega)
 have h2:(w2.alloc o).heap[b]?=w2.heap[b]?:=kG _ _ _ hlt
 exact World.cell?_of_block (w:=w2) (a:=⟨b,x,none⟩) (h1.trans h2)
def toks (w:World) (v:Value) (l:List Mt.Tok):Prop:=w.ownsRow 0 70 7 v l.length (l.flatMap yF)
theorem zQk:∀ (l:List Mt.Tok) (k j:Nat),k<l.length→j<7→(l.flatMap yF)[k*7+j]?=(yF (l.getD k Mt.jA))[j]?:=by
 intro l
 induction l with
 | nil=>intro k j h;simp at h
 | cons t r ih =>
  intro k j h hj
  rw [List.flatMap_cons]
  have h7:(yF t).length=7:=rfl
  cases k with
  | zero=>rw [List.getElem?_append_left (by omega)];simp
  | succ k =>
   rw [List.getElem?_append_right (by omega),h7,show (k+1)*7+j-7=k*7+j by omega,ih k j (by simpa using h) hj]
   simp
theorem vT {w:World} {v:Value} {l:List Mt.Tok} (h:toks w v l) :
  (l=[]∧∃ ao cap,v=.slice ao 0 cap) ∨
  (0<l.length∧∃ g cap,v=.slice (some ⟨g,0,none⟩) l.length cap∧l.length≤cap∧g<w.heap.size∧∀ k j,k<l.length→j<7→w.cell? ⟨g,k*7+j,none⟩=(yF (l.getD k Mt.jA))[j]?):=by
 by_cases h0:l=[]
 ·left
  subst h0
  refine ⟨rfl,?_⟩
  rcases h.2 with ⟨rfl,_⟩ | ⟨g,cap,cur,rfl,_⟩
  ·exact ⟨_,_,rfl⟩
  ·exact ⟨_,_,rfl⟩
 ·right
  have hp:0<l.length:=List.length_pos_iff.2 h0
  refine ⟨hp,?_⟩
  rcases h.2 with ⟨rfl,hn⟩ | ⟨g,cap,cur,rfl,hb,hg,h1,h2,h3,h4⟩
  ·omega
  ·refine ⟨g,cap,rfl,h1,(Array.getElem?_eq_some_iff.1 hg).1,fun k j hk hj=>?_⟩
   have hc:=World.ownsRow.cellAt (g:=g) (cap:=cap) h (k*7+j) (by omega)
   rw [hc,zQk l k j hk hj]
theorem jU {w w':World} {v:Value} {l:List Mt.Tok} (h:toks w v l) (hb:Below w.heap.size w w'):toks w' v l:=by
 refine ⟨h.1,?_⟩
 rcases h.2 with h' | ⟨g,cap,cur,rfl,h0,hg,rest⟩
 ·exact .inl h'
 ·exact .inr ⟨g,cap,cur,rfl,h0,by rw [hb.block g (Array.getElem?_eq_some_iff.1 hg).1];exact hg,rest⟩
theorem zE8 (t:Mt.Tok):((t.kind==6)=true∧(t.kind==7)=false∧Mt.delta t=1)∨((t.kind==6)=false∧(t.kind==7)=true∧Mt.delta t=-1)∨((t.kind==6)=false∧(t.kind==7)=false∧Mt.delta t=0):=by
 unfold Mt.delta
 simp only [beq_iff_eq,beq_eq_false_iff_ne]
 by_cases h:t.kind=6
 ·simp [h]
 ·by_cases h2:t.kind=7
  ·simp [h2]
  ·simp [h,h2]
theorem zDW (l:List Mt.Tok) (v:Value) (w:World) (h:toks w v l) (hl:l.length≤64) :
  Calls Tryz.prog 38 #[v] w fun e w'=>e=.returned (.int .i64 (Mt.opened l))∧w=w':=by
 rcases vT h with ⟨rfl,ao,cap,rfl⟩ | ⟨hp,g,cap,rfl,hcap,hg,hc⟩
 ·clear h
  go_enter Tryz.func38,Tryz.ntmps38
  go_wp2_with fail
  refine wp_loop_rounds 1 ?_
  rw [rounds_succ]
  go_wp2
  go_ret
  exact ⟨rfl,rfl⟩
 ·clear h
  have HC:Hid (∀ k j,k<l.length→j<7→w.cell? ⟨g,k*7+j,none⟩=(yF (l.getD k Mt.jA))[j]?):=hc
  clear hc
  go_enter Tryz.func38,Tryz.ntmps38
  go_wp2_with fail
  go_loop [3,4] (fun n i=>∃ k:Nat,k≤l.length∧i=.int .i64 k∧n=.int .i64 (Mt.opened (l.take k))) (fun _ i=>l.length-(intOf i).toNat)
  case atStart=>exact ⟨0,Nat.zero_le _,rfl,rfl⟩
  case round =>
   obtain ⟨k,hk,rfl,rfl⟩:=hrel
   have ⟨b1,b2⟩:=Mt.zF1 l k
   by_cases hlt:k<l.length
   ·have hc0:w.cell? ⟨g,k*7,none⟩=some (.int .i64 (l.getD k Mt.jA).kind):=HC.out k 0 hlt (by omega)
    have hn:Hid (Mt.opened (l.take (k+1))=Mt.opened (l.take k)+Mt.delta (l.getD k Mt.jA)):=Mt.zE2 l k hlt
    generalize hT:l.getD k Mt.jA=T at *
    clear hT
    rcases zE8 T with ⟨e1,e2,e3⟩ | ⟨e1,e2,e3⟩ | ⟨e1,e2,e3⟩
    all_goals
     have hn':Hid (Mt.opened (l.take (k+1))=Mt.opened (l.take k)+Mt.delta T):=hn
     have e3':Hid (Mt.delta T=_):=e3
     clear e3 hn
     go_wp2
     go_round
     case rel=>exact ⟨k+1,by omega,by go_num,by first | (rw [hn'.out,e3'.out];done) | (rw [hn'.out,e3'.out];go_num)⟩
     case measure=>simp [intOf];omega
   ·have:k=l.length:=by omega
    subst this
    go_wp2
    go_ret
    exact ⟨zBz (by first | rfl | rw [List.take_length]),rfl⟩
theorem zMm (t:Mt.Ins):∀ u∈zU t,u.oneCell'=true:=by
 intro u hu
 simp only [zU,List.mem_cons,List.not_mem_nil,or_false] at hu
 rcases hu with rfl | rfl | rfl | rfl <;> rfl
theorem zBU (c:List Mt.Ins):∀ u∈c.flatMap zU,u.oneCell'=true:=by
 intro u hu
 obtain ⟨i,_,hi⟩:=List.mem_flatMap.1 hu
 exact zMm i u hi
theorem zHX {w:World} {base:Nat} {v:Value} {l:List Mt.Ins} {t:Mt.Ins} (h:w.ownsRow base 48 4 v (l.length+1) (l.flatMap zU++zU t)):zB w base v (l++[t]):=by
 unfold zB
 rw [List.length_append,List.flatMap_append,List.flatMap_cons,List.flatMap_nil,List.append_nil]
 exact h
theorem zBo (l:List Mt.Ins):(l.flatMap zU).length=l.length*4:=by
 induction l with
 | nil=>rfl
 | cons t r ih=>rw [List.flatMap_cons,List.length_append,ih];simp [zU];omega
theorem zAt {w:World} {base:Nat} {v:Value} {l:List Mt.Ins} (h:zB w base v l) :
  (l=[]∧∃ ao cap,v=.slice ao 0 cap) ∨
  (0<l.length∧∃ g cap,v=.slice (some ⟨g,0,none⟩) l.length cap∧l.length≤cap∧g<w.heap.size∧base≤g∧∀ k j,k<l.length→j<4→w.cell? ⟨g,k*4+j,none⟩=(zU (l.getD k Mt.jB))[j]?):=by
 by_cases h0:l=[]
 ·left
  subst h0
  refine ⟨rfl,?_⟩
  rcases h.2 with ⟨rfl,_⟩ | ⟨g,cap,cur,rfl,_⟩
  ·exact ⟨_,_,rfl⟩
  ·exact ⟨_,_,rfl⟩
 ·right
  have hp:0<l.length:=List.length_pos_iff.2 h0
  refine ⟨hp,?_⟩
  rcases h.2 with ⟨rfl,hn⟩ | ⟨g,cap,cur,rfl,hb,hg,h1,h2,h3,h4⟩
  ·omega
  ·refine ⟨g,cap,rfl,h1,(Array.getElem?_eq_some_iff.1 hg).1,hb,fun k j hk hj=>?_⟩
   have hc:=World.ownsRow.cellAt (g:=g) (cap:=cap) h (k*4+j) (by omega)
   rw [hc,zAG l k j hk hj]
theorem Tryz.info49:(Tryz.prog.info? 48).map (fun i=>(i.zero,i.size,i.bytes))=some (some (.agg #[.int .i64 0,.int .i64 0,.int .i64 0,.string ⟨#[]⟩]),4,40):=by kernel_rfl
theorem zK4 {c:List Mt.Ins} {k:Nat} (h:k<c.length) (n:Int):Mt.moved (c.take (k+1)) n=Mt.moved (c.take k) n++[Mt.zAh (c.getD k Mt.jB) n]:=by
 have:c.take (k+1)=c.take k++[c.getD k Mt.jB]:=by
  rw [List.take_succ_eq_append_getElem h,List.getD_eq_getElem?_getD,List.getElem?_eq_getElem h];rfl
 rw [this];simp [Mt.moved]
theorem zHY (i:Mt.Ins) (n:Int) :
  ((i.op==2)=true∧Mt.zAh i n=⟨i.op,i.x+n,i.y+n,i.set⟩) ∨
  ((i.op==2)=false∧(i.op==3)=true∧Mt.zAh i n=⟨i.op,i.x+n,i.y,i.set⟩) ∨
  ((i.op==2)=false∧(i.op==3)=false∧(i.op==5)=true∧Mt.zAh i n=⟨i.op,i.x+n,i.y,i.set⟩) ∨
  ((i.op==2)=false∧(i.op==3)=false∧(i.op==5)=false∧(i.op==11)=true∧Mt.zAh i n=⟨i.op,i.x,i.y+n,i.set⟩) ∨
  ((i.op==2)=false∧(i.op==3)=false∧(i.op==5)=false∧(i.op==11)=false∧Mt.zAh i n=i):=by
 unfold Mt.zAh
 simp only [beq_iff_eq,beq_eq_false_iff_ne]
 by_cases h1:i.op=2
 ·rw [if_pos h1];simp [h1]
 rw [if_neg h1]
 by_cases h2:i.op=3
 ·rw [if_pos (Or.inl h2)];simp [h2]
 by_cases h3:i.op=5
 ·rw [if_pos (Or.inr h3)];simp [h3]
 rw [if_neg (by omega)]
 by_cases h4:i.op=11
 ·rw [if_pos h4];simp [h4]
 rw [if_neg h4];simp [h1,h2,h3,h4]
theorem zHZ (c:List Mt.Ins) (n:Int) (base:Nat) (v:Value) (w:World) (h:zB w base v c) (hf:Mt.fit 1000000000 c) (hn0:0≤n) (hn1:n≤300) :
  Calls Tryz.prog 69 #[v,.int .i64 n] w fun e w'=>∃ v',e=.returned v'∧zB w' w.heap.size v' (Mt.moved c n)∧Below w.heap.size w w':=by
 have hlen:=hf.1
 rcases zAt h with ⟨rfl,ao,cap,rfl⟩ | ⟨hp,g,cap,rfl,hcap,hg,hgb,hc⟩
 ·clear h hf
  go_enter Tryz.func69,Tryz.ntmps69
  go_wp2_with fail
  refine wp_loop_rounds 1 ?_
  rw [rounds_succ]
  go_wp2
  go_ret
  exact ⟨_,rfl,World.ownsRow_nil _ _ _ _,Below.refl _ _⟩
 ·obtain ⟨i0,hi,hz0,hz1,hz2⟩:=info_parts Tryz.info49
  clear h
  have HC:Hid (∀ k j,k<c.length→j<4→w.cell? ⟨g,k*4+j,none⟩=(zU (c.getD k Mt.jB))[j]?):=hc
  have HF:Hid (∀ i∈c,Mt.zJc 1000000000 i):=hf.2
  clear hc hf
  go_enter Tryz.func69,Tryz.ntmps69
  go_wp2_with fail
  go_loopw [5,6] (fun v i wr=>∃ k:Nat,k≤c.length∧i=.int .i64 k∧zB wr w.heap.size v (Mt.moved (c.take k) n)∧Below w.heap.size w wr) (fun _ i _=>c.length-(intOf i).toNat)
  case atStart=>exact ⟨0,Nat.zero_le _,rfl,World.ownsRow_nil _ _ _ _,Below.refl _ _⟩
  case round =>
   obtain ⟨k,hk,rfl,hown,hbel⟩:=hrel
   have hsz:=hbel.size
   have hml:(Mt.moved (c.take k) n).length=k:=by rw [Mt.jY,List.length_take];omega
   have HO:Hid (zB wr w.heap.size u5 (Mt.moved (c.take k) n)):=hown
   clear hown
   by_cases hlt:k<c.length
   ·have hc0:wr.cell? ⟨g,k*4,none⟩=some (.int .i64 (c.getD k Mt.jB).op):=(hbel.cell (p:=⟨g,k*4,none⟩) hg).trans (HC.out k 0 hlt (by omega))
    have hc1:wr.cell? ⟨g,k*4+1,none⟩=some (.int .i64 (c.getD k Mt.jB).x):=(hbel.cell (p:=⟨g,k*4+1,none⟩) hg).trans (HC.out k 1 hlt (by omega))
    have hc2:wr.cell? ⟨g,k*4+2,none⟩=some (.int .i64 (c.getD k Mt.jB).y):=(hbel.cell (p:=⟨g,k*4+2,none⟩) hg).trans (HC.out k 2 hlt (by omega))
    have hc3:wr.cell? ⟨g,k*4+3,none⟩=some (.string ⟨(c.getD k Mt.jB).set.toArray⟩):=(hbel.cell (p:=⟨g,k*4+3,none⟩) hg).trans (HC.out k 3 hlt (by omega))
    have HT:Hid (Mt.moved (c.take (k+1)) n=Mt.moved (c.take k) n++[Mt.zAh (c.getD k Mt.jB) n]):=zK4 hlt n
    have hfi:Mt.zJc 1000000000 (c.getD k Mt.jB):=HF.out _ (by rw [List.getD_eq_getElem?_getD,List.getElem?_eq_getElem hlt];exact List.getElem_mem hlt)
    generalize hI:c.getD k Mt.jB=I at *
    clear hI
    obtain ⟨f1,f2,f3,f4⟩:=hfi
    generalize hP:Mt.moved (c.take k) n=P at *
    have HP:Hid (Mt.moved (c.take k) n=P):=hP
    clear hP
    rcases zHY I n with ⟨e1,e⟩ | ⟨e1,e2,e⟩ | ⟨e1,e2,e3,e⟩ | ⟨e1,e2,e3,e4,e⟩ | ⟨e1,e2,e3,e4,e⟩
    all_goals
     have HE:Hid (Mt.zAh I n=_):=e
     clear e
     go_wp2_with (first | (at_builtin;refine wpList_append_own _ rfl _ _ 42 rfl w.heap.size 48 i0 _ 4 40 Tryz.underlying42 hi hz0 hz1 hz2 rfl (by decide) _ _ _ rfl (World.ownsRow.alloc (World.ownsRow.alloc HO.out _) _) ⟨wr.heap.size+1,0,none⟩ 1 1 (zU (Mt.zAh I n)) rfl rfl ?_ (zMm _) ?_ ?_ ?_ ?_;rotate_right))
     ·intro v' w1 hown' hgrow _
      have R1:Hid (zB w1 w.heap.size v' (Mt.moved (c.take (k+1)) n)):=by
       show zB _ _ _ _
       rw [HT.out];exact zHX (by rw [hml];exact hown')
      have R2:Below w.heap.size w w1:=((hbel.alloc hsz _).alloc (by simp;omega) _).grown hgrow (by simp;omega) (fun q hq'=>(World.ownsRow.lt HO.out q hq').1)
      clear hown' hgrow HO HT HP HE
      go_wp2
      go_roundw
      case rel=>exact ⟨k+1,by omega,by go_num,R1.out,R2⟩
      case measure=>simp [intOf];omega
     ·rw [HE.out];exact zE7 _ _ (by simp) _ _
     ·unfold maxLen;omega
     ·omega
     ·simp;omega
   ·have hk2:k=c.length:=by omega
    have HO2:Hid (zB wr w.heap.size u5 (Mt.moved c n)):=by
     have:=HO.out
     rw [hk2,List.take_length] at this
     exact this
    clear HO
    go_wp2_with fail
    go_ret
    exact ⟨_,rfl,HO2.out,hbel⟩
theorem zEM {w:World} {base g cap:Nat} {c:List Mt.Ins} (h:zB w base (.slice (some ⟨g,0,none⟩) c.length cap) c):∀ j u,(c.flatMap zU)[j]?=some u→w.cell? ((⟨g,0,none⟩:Addr).add j)=some u :=
 World.ownsRow.cells h rfl
theorem zJi {a b:List Mt.Ins} (h:300<a.length):Mt.behind a b=a:=by unfold Mt.behind;rw [if_pos h]
theorem zH0 {a b:List Mt.Ins} (h:a.length≤300):Mt.behind a b=a++Mt.moved b a.length:=by unfold Mt.behind;rw [if_neg (by omega)]
theorem zB.join {w:World} {base:Nat} {v:Value} {a b:List Mt.Ins} (h:w.ownsRow base 48 4 v (a.length+b.length) (a.flatMap zU++b.flatMap zU)):zB w base v (a++b):=by
 unfold zB;rw [List.length_append,List.flatMap_append];exact h
theorem kD (a b:List Mt.Ins) (va vb:Value) (w:World) (ha:zB w 0 va a) (hb:zB w 0 vb b) (fa:Mt.fit 900000000 a) (fb:Mt.fit 900000000 b) :
  Calls Tryz.prog 40 #[va,vb] w fun e w'=>∃ v',e=.returned v'∧zB w' 0 v' (Mt.behind a b)∧Below w.heap.size w w':=by
 have la:=fa.1
 have lb:=fb.1
 have fb':=Mt.zI fb (show (900000000:Int)≤1000000000 by omega)
 obtain ⟨i0,hi,hz0,hz1,hz2⟩:=info_parts Tryz.info49
 have HA:Hid (zB w 0 va a):=ha
 have HB:Hid (zB w 0 vb b):=hb
 have HF:Hid (Mt.fit 1000000000 b):=fb'
 clear fa fb fb' hb
 have HL:Hid ((Mt.moved b (a.length:Int)).length=b.length):=Mt.jY b (a.length:Int)
 by_cases hlt:300<a.length
 ·rw [zJi hlt]
  rcases zAt ha with ⟨rfl,_⟩ | ⟨hp,g,cap,rfl,hcap,hg,hgb,hc⟩
  ·simp at hlt
  ·clear hc ha
   go_enter Tryz.func40,Tryz.ntmps40
   go_wp2_with fail
   go_ret
   exact ⟨_,rfl,HA.out,Below.refl _ _⟩
 ·rw [zH0 (by omega)]
  rcases ha.2 with ⟨rfl,hn⟩ | ⟨g,cap,cur,rfl,_,_,_,_,_,_⟩
  ·have hn0:a=[]:=List.length_eq_zero_iff.1 hn
   subst hn0
   clear ha
   go_enter Tryz.func40,Tryz.ntmps40
   go_wp2_with fail
   refine (zHZ b _ 0 vb _ HB.out HF.out (by omega) (by omega)).mono ?_
   rintro e w1 ⟨v',rfl,hm,hb1⟩
   rcases hm.2 with ⟨rfl,hn'⟩ | ⟨g,cap,cur,rfl,_,_,_,_,_,_⟩
   ·have HM:Hid (zB w1 w.heap.size (.slice none 0 0) (Mt.moved b 0)):=hm
    clear hm
    go_wp2_with (first | (at_builtin;refine wpList_append_own_none rfl (.tmp 15) (.tmp 16) 42 rfl w.heap.size 48 i0 4 Tryz.underlying42 hi _ 0 [] rfl (World.ownsRow_nil _ _ _ _) rfl ?_) | (at_builtin;refine wpList_append_own_none rfl (.tmp 18) (.tmp 19) 42 rfl w.heap.size 48 i0 4 Tryz.underlying42 hi _ 0 [] rfl (World.ownsRow_nil _ _ _ _) rfl ?_))
    go_ret
    exact ⟨_,rfl,HM.out.base (Nat.zero_le _),hb1⟩
   ·have HM:Hid (zB w1 w.heap.size (.slice (some ⟨g,0,none⟩) (Mt.moved b 0).length cap) (Mt.moved b 0)):=hm
    have hsz:=hb1.size
    clear hm
    go_wp2_with (first | (at_builtin;refine wpList_append_own_none rfl (.tmp 15) (.tmp 16) 42 rfl w.heap.size 48 i0 4 Tryz.underlying42 hi _ 0 [] rfl (World.ownsRow_nil _ _ _ _) rfl ?_) | (at_builtin;refine wpList_append_own _ rfl (.tmp 18) (.tmp 19) 42 rfl w.heap.size 48 i0 _ 4 40 Tryz.underlying42 hi hz0 hz1 hz2 rfl (by decide) _ 0 [] rfl (World.ownsRow_nil _ _ _ _) ⟨g,0,none⟩ _ cap ((Mt.moved b 0).flatMap zU) rfl (zBo _) (zEM HM.out) (zBU _) ?_ ?_ ?_ ?_;rotate_right))
    ·intro v2 w2 hown2 hgrow _
     have R1:Hid (zB w2 w.heap.size v2 (Mt.moved b 0)):=by show zB _ _ _ _;simpa [zB] using hown2
     have R2:Below w.heap.size w w2:=hb1.grown hgrow hsz (fun q hq'=>by simp [Value.ownBlock] at hq')
     clear hown2 hgrow
     go_wp2_with fail
     go_ret
     exact ⟨_,rfl,R1.out.base (Nat.zero_le _),R2⟩
    ·unfold maxLen;have hl0:=HL.out;simp only [List.length_nil,Int.natCast_zero] at hl0;omega
    ·have hl0:=HL.out;simp only [List.length_nil,Int.natCast_zero] at hl0;omega
    ·omega
  ·have ha':zB w 0 (.slice (some ⟨g,0,none⟩) a.length cap) a:=ha
   clear ha
   go_enter Tryz.func40,Tryz.ntmps40
   go_wp2_with fail
   refine (zHZ b _ 0 vb _ HB.out HF.out (by omega) (by omega)).mono ?_
   rintro e w1 ⟨v',rfl,hm,hb1⟩
   have hsz:=hb1.size
   have HA1:Hid (zB w1 0 (.slice (some ⟨g,0,none⟩) a.length cap) a):=HA.out.below hb1
   clear ha'
   rcases hm.2 with ⟨rfl,hn'⟩ | ⟨g2,cap2,zUv,rfl,_,_,_,_,_,_⟩
   ·have hb0:Mt.moved b (a.length:Int)=[]:=List.length_eq_zero_iff.1 hn'
    have HE:Hid (a++Mt.moved b (a.length:Int)=a):=by show _=_;rw [hb0,List.append_nil]
    clear hm hb0
    go_wp2_with (first | (at_builtin;refine wpList_append_own _ rfl (.tmp 15) (.tmp 16) 42 rfl w.heap.size 48 i0 _ 4 40 Tryz.underlying42 hi hz0 hz1 hz2 rfl (by decide) _ 0 [] rfl (World.ownsRow_nil _ _ _ _) ⟨g,0,none⟩ _ cap (a.flatMap zU) rfl (zBo _) (zEM HA1.out) (zBU _) ?_ ?_ ?_ ?_;rotate_right))
    ·intro v2 w2 hown2 hgrow _
     try simp only [Nat.zero_add,List.nil_append] at hown2
     have R2:Below w.heap.size w w2:=hb1.grown hgrow hsz (fun q hq'=>by simp [Value.ownBlock] at hq')
     have HO2:Hid (w2.ownsRow w.heap.size 48 4 v2 a.length (a.flatMap zU)):=hown2
     clear hown2 hgrow
     go_wp2_with (at_builtin;refine wpList_append_own_none rfl (.tmp 18) (.tmp 19) 42 rfl w.heap.size 48 i0 4 Tryz.underlying42 hi _ _ _ rfl HO2.out rfl ?_)
     go_ret
     exact ⟨_,rfl,by rw [HE.out];exact kQ HO2.out (Nat.zero_le _),R2⟩
    ·unfold maxLen;omega
    ·omega
    ·omega
   ·have HM:Hid (zB w1 w.heap.size (.slice (some ⟨g2,0,none⟩) (Mt.moved b (a.length:Int)).length cap2) (Mt.moved b (a.length:Int))):=hm
    clear hm
    go_wp2_with (first | (at_builtin;refine wpList_append_own _ rfl (.tmp 15) (.tmp 16) 42 rfl w.heap.size 48 i0 _ 4 40 Tryz.underlying42 hi hz0 hz1 hz2 rfl (by decide) _ 0 [] rfl (World.ownsRow_nil _ _ _ _) ⟨g,0,none⟩ _ cap (a.flatMap zU) rfl (zBo _) (zEM HA1.out) (zBU _) ?_ ?_ ?_ ?_;rotate_right))
    ·intro v2 w2 hown2 hgrow _
     try simp only [Nat.zero_add,List.nil_append] at hown2
     have R2:Below w.heap.size w w2:=hb1.grown hgrow hsz (fun q hq'=>by simp [Value.ownBlock] at hq')
     have zOl:Below w1.heap.size w1 w2:=(Below.refl _ _).grown hgrow (Nat.le_refl _) (fun q hq'=>by simp [Value.ownBlock] at hq')
     have HM2:Hid (zB w2 w.heap.size (.slice (some ⟨g2,0,none⟩) (Mt.moved b (a.length:Int)).length cap2) (Mt.moved b (a.length:Int))):=HM.out.below zOl
     have hsz2:=R2.size
     have HO2:Hid (w2.ownsRow w.heap.size 48 4 v2 a.length (a.flatMap zU)):=hown2
     clear hown2 hgrow HM zOl
     go_wp2_with (at_builtin;refine wpList_append_own _ rfl (.tmp 18) (.tmp 19) 42 rfl w.heap.size 48 i0 _ 4 40 Tryz.underlying42 hi hz0 hz1 hz2 rfl (by decide) _ _ _ rfl HO2.out ⟨g2,0,none⟩ _ cap2 ((Mt.moved b (a.length:Int)).flatMap zU) rfl (zBo _) (zEM HM2.out) (zBU _) ?_ ?_ ?_ ?_;rotate_right)
     ·intro v3 w3 hown3 hgrow3 _
      have R3:Hid (zB w3 w.heap.size v3 (a++Mt.moved b (a.length:Int))):=zB.join hown3
      have R4:Below w.heap.size w w3:=R2.grown hgrow3 hsz2 (fun q hq'=>(World.ownsRow.lt HO2.out q hq').1)
      clear hown3 hgrow3
      go_wp2_with fail
      go_ret
      exact ⟨_,rfl,R3.out.base (Nat.zero_le _),R4⟩
     ·unfold maxLen;have hl0:=HL.out;omega
     ·have hl0:=HL.out;omega
     ·omega
    ·unfold maxLen;omega
    ·omega
    ·omega
theorem zAu (w:World) (b:Nat) (hb:b=w.heap.size) (i:Mt.Ins):zB (w.alloc (.cells #[.int .i64 i.op,.int .i64 i.x,.int .i64 i.y,.string ⟨i.set.toArray⟩] 48)) 0 (.slice (some ⟨b,0,none⟩) 1 1) [i]:=by
 subst hb
 refine ⟨rfl,.inr ⟨w.heap.size,1,_,rfl,Nat.zero_le _,heap_alloc_new w _,Nat.le_refl _,by unfold maxLen;omega,rfl,?_⟩⟩
 rfl
theorem zCp {w:World} {base:Nat} {v:Value} {c:List Mt.Ins} (h:zB w base v c):∃ ao cap,v=.slice ao c.length cap:=by
 rcases h.2 with ⟨rfl,hn⟩ | ⟨g,cap,cur,rfl,_⟩
 ·exact ⟨none,0,by rw [hn]⟩
 ·exact ⟨_,_,rfl⟩
theorem zE9 (x y:Int) (late:Bool) (w:World) :
  Calls Tryz.prog 68 #[.int .i64 x,.int .i64 y,.bool late] w fun e w'=>∃ v',e=.returned v'∧zB w' 0 v' (Mt.jM x y late)∧Below w.heap.size w w':=by
 cases late
 ·go_enter Tryz.func68,Tryz.ntmps68
  go_wp2_with fail
  go_ret
  exact ⟨_,rfl,zAu w _ rfl ⟨2,x,y,[]⟩,by go_grown⟩
 ·go_enter Tryz.func68,Tryz.ntmps68
  go_wp2_with fail
  go_ret
  exact ⟨_,rfl,zAu w _ rfl ⟨2,y,x,[]⟩,by go_grown⟩
theorem yJ {M:Int} (o x y:Int) (s:List UInt8) (hx:-M≤x∧x≤M) (hy:-M≤y∧y≤M):Mt.zJc M ⟨o,x,y,s⟩:=⟨hx.1,hx.2,hy.1,hy.2⟩
theorem zBe (sort:Int) (c:List Mt.Ins) (v:Value) (w:World) (h:zB w 0 v c) (hf:Mt.fit 800000000 c) (hs0:0≤sort) (hs1:sort≤10) :
  Calls Tryz.prog 135 #[.int .i64 sort,v] w fun e w'=>∃ v',e=.returned v'∧zB w' 0 v' (Mt.alone sort c)∧Below w.heap.size w w':=by
 have hl:=hf.1
 have H:Hid (zB w 0 v c):=h
 have F1:Hid (Mt.fit 900000000 c):=Mt.zI hf (by omega)
 have F2:Hid (Mt.fit 900000000 [(⟨11,sort,(c.length:Int)+2,[]⟩:Mt.Ins)]):=Mt.zA0 (yJ _ _ _ _ (by omega) (by omega)) (by omega)
 have F3:Hid (Mt.fit 900000000 (Mt.behind [(⟨11,sort,(c.length:Int)+2,[]⟩:Mt.Ins)] c)) :=
  Mt.zI (Mt.yI (Mt.zI (Mt.zA0 (M:=800000010) (yJ _ _ _ _ (by omega) (by omega)) (by omega)) (Int.le_refl _)) (Mt.zI hf (by omega))) (by omega)
 have F4:Hid (Mt.fit 900000000 [(⟨12,0,0,[]⟩:Mt.Ins)]):=Mt.zA0 (yJ _ _ _ _ (by omega) (by omega)) (by omega)
 obtain ⟨ao,cap,rfl⟩:=zCp h
 clear h hf
 go_enter Tryz.func135,Tryz.ntmps135
 go_wp2_with fail
 refine (kD [⟨11,sort,(c.length:Int)+2,[]⟩] c _ _ _ (zAu w _ rfl _) (H.out.below (by go_grown)) F2.out F1.out).mono ?_
 rintro e w1 ⟨v1,rfl,h1,hb1⟩
 have H1:Hid (zB w1 0 v1 (Mt.behind [(⟨11,sort,(c.length:Int)+2,[]⟩:Mt.Ins)] c)):=h1
 have hB:Below w.heap.size w w1:=((Below.refl _ _).alloc (Nat.le_refl _) _).trans (hb1.mono (by simp))
 have hsz:=hB.size
 clear h1 hb1
 go_wp2_with fail
 refine (kD _ [⟨12,0,0,[]⟩] _ _ _ (H1.out.below (by go_grown)) (zAu w1 _ rfl _) F3.out F4.out).mono ?_
 rintro e w2 ⟨v2,rfl,h2,hb2⟩
 have hB2:Below w.heap.size w w2:=(hB.alloc hsz _).trans (hb2.mono (by simp;omega))
 clear hb2
 go_wp2_with fail
 go_ret
 exact ⟨_,rfl,h2,hB2⟩
theorem zFa {M:Int} (x y:Int) (late:Bool) (hx:-M≤x∧x≤M) (hy:-M≤y∧y≤M) (h1:1≤M):Mt.fit M (Mt.jM x y late):=by
 unfold Mt.jM
 cases late
 ·exact Mt.zA0 (yJ _ _ _ _ hx hy) h1
 ·exact Mt.zA0 (yJ _ _ _ _ hy hx) h1
theorem zEN (y:List Mt.Ins) (d:Int) (late:Bool) (v:Value) (w:World) (h:zB w 0 v y) (hf:Mt.fit 700000000 y) (hd0:0≤d) (hd1:d≤1000) :
  Calls Tryz.prog 134 #[v,.int .i64 d,.bool late] w fun e w'=>∃ v',e=.returned v'∧zB w' 0 v' (Mt.vI y d late)∧Below w.heap.size w w':=by
 have hl:=hf.1
 have H:Hid (zB w 0 v y):=h
 have g1:Mt.fit 700000010 (Mt.jM 1 ((y.length:Int)+3) late):=zFa _ _ _ (by omega) (by omega) (by omega)
 have g2:Mt.fit 700000010 [(⟨4,d,0,[]⟩:Mt.Ins)]:=Mt.zA0 (yJ _ _ _ _ (by omega) (by omega)) (by omega)
 have g3:=Mt.yI g1 g2
 have g4:=Mt.yI g3 (Mt.zI hf (show (700000000:Int)≤700000010+300 by omega))
 have F1:Hid (Mt.fit 900000000 y):=Mt.zI hf (by omega)
 have F2:Hid (Mt.fit 900000000 (Mt.jM 1 ((y.length:Int)+3) late)):=Mt.zI g1 (by omega)
 have F3:Hid (Mt.fit 900000000 [(⟨4,d,0,[]⟩:Mt.Ins)]):=Mt.zI g2 (by omega)
 have F4:Hid (Mt.fit 900000000 (Mt.behind (Mt.jM 1 ((y.length:Int)+3) late) [⟨4,d,0,[]⟩])):=Mt.zI g3 (by omega)
 have F5:Hid (Mt.fit 900000000 (Mt.behind (Mt.behind (Mt.jM 1 ((y.length:Int)+3) late) [⟨4,d,0,[]⟩]) y)):=Mt.zI g4 (by omega)
 have F6:Hid (Mt.fit 900000000 [(⟨5,-(y.length:Int)-2,d,[]⟩:Mt.Ins)]):=Mt.zA0 (yJ _ _ _ _ (by omega) (by omega)) (by omega)
 clear g1 g2 g3 g4
 obtain ⟨ao,cap,rfl⟩:=zCp h
 clear h hf
 go_enter Tryz.func134,Tryz.ntmps134
 go_wp2_with fail
 refine (zE9 _ _ _ _).mono ?_
 rintro e w1 ⟨v1,rfl,h1,hb1⟩
 have H1:Hid (zB w1 0 v1 (Mt.jM 1 ((y.length:Int)+3) late)):=h1
 have Hy1:Hid (zB w1 0 (.slice ao y.length cap) y):=H.out.below hb1
 have hs1:=hb1.size
 clear h1 H
 go_wp2_with fail
 refine (kD _ [⟨4,d,0,[]⟩] _ _ _ (H1.out.below (by go_grown)) (zAu w1 _ rfl _) F2.out F3.out).mono ?_
 rintro e w2 ⟨v2,rfl,h2,hb2⟩
 have zOl:Below w1.heap.size w1 w2:=((Below.refl _ _).alloc (Nat.le_refl _) _).trans (hb2.mono (by simp))
 have hB2:Below w.heap.size w w2:=hb1.trans (zOl.mono hs1)
 have hs2:=hB2.size
 have H2:Hid (zB w2 0 v2 (Mt.behind (Mt.jM 1 ((y.length:Int)+3) late) [⟨4,d,0,[]⟩])):=h2
 have Hy2:Hid (zB w2 0 (.slice ao y.length cap) y):=Hy1.out.below zOl
 clear h2 hb2 zOl H1 Hy1 hb1
 go_wp2_with fail
 refine (kD _ y _ _ _ H2.out Hy2.out F4.out F1.out).mono ?_
 rintro e w3 ⟨v3,rfl,h3,hb3⟩
 have hB3:Below w.heap.size w w3:=hB2.trans (hb3.mono hs2)
 have hs3:=hB3.size
 have H3:Hid (zB w3 0 v3 (Mt.behind (Mt.behind (Mt.jM 1 ((y.length:Int)+3) late) [⟨4,d,0,[]⟩]) y)):=h3
 clear h3 hb3 hB2 H2 Hy2
 go_wp2_with fail
 refine (kD _ [⟨5,-(y.length:Int)-2,d,[]⟩] _ _ _ (H3.out.below (by go_grown)) (zAu w3 _ rfl _) F5.out F6.out).mono ?_
 rintro e w4 ⟨v4,rfl,h4,hb4⟩
 have hB4:Below w.heap.size w w4:=(hB3.alloc hs3 _).trans (hb4.mono (by simp;omega))
 clear hb4
 go_wp2_with fail
 go_ret
 exact ⟨_,rfl,h4,hB4⟩
theorem jK {M:Int} {a b:List Mt.Ins} (ha:Mt.fit (M+300) a) (hb:Mt.fit M b):Mt.fit (M+300) (Mt.behind a b):=by
 unfold Mt.behind
 by_cases h:300<a.length
 ·rw [if_pos h];exact ha
 ·rw [if_neg h]
  refine ⟨?_,fun i hi=>?_⟩
  ·rw [List.length_append,Mt.jY];have:=hb.1;omega
  ·rcases List.mem_append.1 hi with hi | hi
   ·exact ha.2 i hi
   ·unfold Mt.moved at hi
    obtain ⟨j,hj,rfl⟩:=List.mem_map.1 hi
    exact Mt.zDU (hb.2 j hj) (by omega) (by omega)
theorem zMn (x:List Mt.Ins) (late:Bool) (k i:Nat) (c:List Mt.Ins) (h:i<k):Mt.vJ x late (k-i) c=Mt.vJ x late (k-(i+1)) (Mt.behind c (Mt.behind (Mt.jM 1 (((k:Int)-i)*(x.length+1)) late) x)):=by
 rw [show k-i=(k-(i+1))+1 by omega]
 simp only [Mt.vJ]
 rw [show ((k-(i+1):Nat):Int)+1=(k:Int)-i by omega]
theorem zMo (k i:Nat) (L:Nat) (h:i<k) (hk:k≤20) (hL:(L:Int)≤10000000):0≤((k:Int)-i)*((L:Int)+1)∧((k:Int)-i)*((L:Int)+1)≤300000000:=by
 have h1:(0:Int)≤(k:Int)-i:=by omega
 have h2:(k:Int)-i≤20:=by omega
 refine ⟨Int.mul_nonneg h1 (by omega),?_⟩
 have:=Int.mul_le_mul h2 (show (L:Int)+1≤10000001 by omega) (by omega) (by omega)
 omega
theorem zOy (x:List Mt.Ins) (k:Nat) (late:Bool) (v:Value) (w:World) (h:zB w 0 v x) (hf:Mt.fit 70000000 x) (hl:(x.length:Int)≤10000000) (hk:k≤20) :
  Calls Tryz.prog 133 #[v,.int .i64 k,.bool late] w fun e w'=>∃ v',e=.returned v'∧zB w' 0 v' (Mt.upTo x k late)∧Below w.heap.size w w':=by
 have F1:Hid (Mt.fit 70000000 x):=hf
 have H:Hid (zB w 0 v x):=h
 obtain ⟨ao,cap,rfl⟩:=zCp h
 clear h hf
 go_enter Tryz.func133,Tryz.ntmps133
 go_wp2_with fail
 go_loopw [7,8] (fun u i wr=>∃ (j:Nat) (c:List Mt.Ins),j≤k∧i=.int .i64 j∧zB wr 0 u c∧Mt.fit 400000600 c∧Below w.heap.size w wr∧Mt.upTo x k late=Mt.vJ x late (k-j) c) (fun _ i _=>k-(intOf i).toNat)
 case atStart=>exact ⟨0,[],Nat.zero_le _,rfl,zB.nil _ _,Mt.zAe (by omega),Below.refl _ _,rfl⟩
 case round =>
  obtain ⟨j,c,hj,rfl,hown,hfc,hbel,hr⟩:=hrel
  have HR:Hid (Mt.upTo x k late=Mt.vJ x late (k-j) c):=hr
  have HO:Hid (zB wr 0 u7 c):=hown
  have FC:Hid (Mt.fit 400000600 c):=hfc
  have hs0:=hbel.size
  clear hr hown hfc
  by_cases hlt:j<k
  ·have HN:Hid (Mt.upTo x k late=Mt.vJ x late (k-(j+1)) (Mt.behind c (Mt.behind (Mt.jM 1 (((k:Int)-j)*(x.length+1)) late) x))):=HR.out.trans (zMn x late k j c hlt)
   have hm:=zMo k j x.length hlt hk hl
   have hm1:=hm.1
   have hm2:=hm.2
   have Hx:Hid (zB wr 0 (.slice ao x.length cap) x):=H.out.below hbel
   have g1:Mt.fit 300000000 (Mt.jM 1 (((k:Int)-j)*(x.length+1)) late):=zFa _ _ _ (by omega) (by omega) (by omega)
   have g2:=Mt.yI g1 (Mt.zI F1.out (show (70000000:Int)≤300000000 by omega))
   have G1:Hid (Mt.fit 900000000 (Mt.jM 1 (((k:Int)-j)*(x.length+1)) late)):=Mt.zI g1 (by omega)
   have G2:Hid (Mt.fit 900000000 (Mt.behind (Mt.jM 1 (((k:Int)-j)*(x.length+1)) late) x)):=Mt.zI g2 (by omega)
   have G3:Hid (Mt.fit 400000600 (Mt.behind c (Mt.behind (Mt.jM 1 (((k:Int)-j)*(x.length+1)) late) x))):=jK (M:=400000300) FC.out (Mt.zI g2 (by omega))
   have G4:Hid (Mt.fit 900000000 c):=Mt.zI FC.out (by omega)
   have G5:Hid (Mt.fit 900000000 x):=Mt.zI F1.out (by omega)
   clear g1 g2 hm HR FC
   go_wp2_with fail
   refine (zE9 _ _ _ _).mono ?_
   rintro e w1 ⟨v1,rfl,h1,hb1⟩
   have hB1:Below w.heap.size w w1:=hbel.trans (hb1.mono hs0)
   have hs1:=hB1.size
   have H1:Hid (zB w1 0 v1 (Mt.jM 1 (((k:Int)-j)*(x.length+1)) late)):=h1
   have Hx1:Hid (zB w1 0 (.slice ao x.length cap) x):=Hx.out.below hb1
   have HO1:Hid (zB w1 0 u7 c):=HO.out.below hb1
   clear h1 hb1 Hx HO hbel
   go_wp2_with fail
   refine (kD _ x _ _ _ H1.out Hx1.out G1.out G5.out).mono ?_
   rintro e w2 ⟨v2,rfl,h2,hb2⟩
   have hB2:Below w.heap.size w w2:=hB1.trans (hb2.mono hs1)
   have hs2:=hB2.size
   have H2:Hid (zB w2 0 v2 (Mt.behind (Mt.jM 1 (((k:Int)-j)*(x.length+1)) late) x)):=h2
   have HO2:Hid (zB w2 0 u7 c):=HO1.out.below hb2
   clear h2 hb2 Hx1 HO1 hB1 H1
   go_wp2_with fail
   refine (kD c _ _ _ _ HO2.out H2.out G4.out G2.out).mono ?_
   rintro e w3 ⟨v3,rfl,h3,hb3⟩
   have hB3:Below w.heap.size w w3:=hB2.trans (hb3.mono hs2)
   have H3:Hid (zB w3 0 v3 (Mt.behind c (Mt.behind (Mt.jM 1 (((k:Int)-j)*(x.length+1)) late) x))):=h3
   clear h3 hb3 hB2 H2 HO2
   go_wp2_with fail
   go_roundw
   case rel=>exact ⟨j+1,_,by omega,by go_num,H3.out,G3.out,hB3,HN.out⟩
   case measure=>simp [intOf];omega
  ·have hj2:j=k:=by omega
   have HO2:Hid (zB wr 0 u7 (Mt.upTo x k late)):=by
    show zB _ _ _ _
    rw [HR.out,hj2,Nat.sub_self];exact HO.out
   clear HO HR
   go_wp2_with fail
   go_ret
   exact ⟨_,rfl,HO2.out,hbel⟩
theorem zFb (t:Mt.Tok):((t.kind==6)=false∧Mt.kP t=false)∨((t.kind==6)=true∧(t.how==4)=false∧Mt.kP t=false)∨((t.kind==6)=true∧(t.how==4)=true∧Mt.kP t=true):=by
 unfold Mt.kP
 simp only [beq_iff_eq,beq_eq_false_iff_ne,decide_eq_true_eq,decide_eq_false_iff_not]
 omega
theorem zEn (l:List Mt.Tok) (v:Value) (w:World) (h:toks w v l) (hl:l.length≤64) :
  Calls Tryz.prog 37 #[v] w fun e w'=>e=.returned (.int .i64 (Mt.captures l))∧w=w':=by
 rcases vT h with ⟨rfl,ao,cap,rfl⟩ | ⟨hp,g,cap,rfl,hcap,hg,hc⟩
 ·clear h
  go_enter Tryz.func37,Tryz.ntmps37
  go_wp2_with fail
  refine wp_loop_rounds 1 ?_
  rw [rounds_succ]
  go_wp2
  go_ret
  exact ⟨rfl,rfl⟩
 ·clear h
  have HC:Hid (∀ k j,k<l.length→j<7→w.cell? ⟨g,k*7+j,none⟩=(yF (l.getD k Mt.jA))[j]?):=hc
  clear hc
  go_enter Tryz.func37,Tryz.ntmps37
  go_wp2_with fail
  go_loop [3,4] (fun n i=>∃ k:Nat,k≤l.length∧i=.int .i64 k∧n=.int .i64 (Mt.captures (l.take k))) (fun _ i=>l.length-(intOf i).toNat)
  case atStart=>exact ⟨0,Nat.zero_le _,rfl,rfl⟩
  case round =>
   obtain ⟨k,hk,rfl,rfl⟩:=hrel
   have ⟨b1,b2⟩:=Mt.zEC l k
   by_cases hlt:k<l.length
   ·have hc0:w.cell? ⟨g,k*7,none⟩=some (.int .i64 (l.getD k Mt.jA).kind):=HC.out k 0 hlt (by omega)
    have hc5:w.cell? ⟨g,k*7+5,none⟩=some (.int .i64 (l.getD k Mt.jA).how):=HC.out k 5 hlt (by omega)
    have hn:Hid (Mt.captures (l.take (k+1))=Mt.captures (l.take k)+if Mt.kP (l.getD k Mt.jA) then 1 else 0):=Mt.zA9 l k hlt
    generalize hT:l.getD k Mt.jA=T at *
    clear hT
    rcases zFb T with ⟨e1,e3⟩ | ⟨e1,e2,e3⟩ | ⟨e1,e2,e3⟩
    all_goals
     have hn':Hid (Mt.captures (l.take (k+1))=Mt.captures (l.take k)+if Mt.kP T then 1 else 0):=hn
     have e3':Hid (Mt.kP T=_):=e3
     clear e3 hn
     go_wp2
     go_round
     case rel=>exact ⟨k+1,by omega,by go_num,by first | (rw [hn'.out,e3'.out];simp;done) | (rw [hn'.out,e3'.out];go_num)⟩
     case measure=>simp [intOf];omega
   ·have:k=l.length:=by omega
    subst this
    go_wp2
    go_ret
    exact ⟨zBz (by first | rfl | rw [List.take_length]),rfl⟩
theorem zDb (l:List Mt.Tok) (i:Nat) (v:Value) (w:World) (h:toks w v l) (hl:l.length≤64) (hi:i≤l.length) :
  Calls Tryz.prog 104 #[v,.int .i64 i] w fun e w'=>e=.returned (.int .i64 (Mt.closing l i))∧w=w':=by
 rcases vT h with ⟨rfl,ao,cap,rfl⟩ | ⟨hp,g,cap,rfl,hcap,hg,hc⟩
 ·clear h
  have:i=0:=by simpa using hi
  subst this
  go_enter Tryz.func104,Tryz.ntmps104
  go_wp2_with fail
  refine wp_loop_rounds 1 ?_
  rw [rounds_succ]
  go_wp2
  go_ret
  exact ⟨rfl,rfl⟩
 ·clear h
  have HC:Hid (∀ k j,k<l.length→j<7→w.cell? ⟨g,k*7+j,none⟩=(yF (l.getD k Mt.jA))[j]?):=hc
  clear hc
  go_enter Tryz.func104,Tryz.ntmps104
  go_wp2_with fail
  go_loop [5,6] (fun n j=>∃ (k:Nat) (x:Int),i≤k∧k≤l.length∧-(k:Int)≤x∧x≤k∧j=.int .i64 k∧n=.int .i64 x∧Mt.closing l i=Mt.kE (l.drop k) x k) (fun _ j=>l.length-(intOf j).toNat)
  case atStart=>exact ⟨i,0,Nat.le_refl _,hi,by omega,by omega,rfl,rfl,rfl⟩
  case round =>
   obtain ⟨k,x,hik,hk,b1,b2,rfl,rfl,hr⟩:=hrel
   have H:Hid (Mt.closing l i=Mt.kE (l.drop k) x k):=hr
   clear hr
   by_cases hlt:k<l.length
   ·have hc0:w.cell? ⟨g,k*7,none⟩=some (.int .i64 (l.getD k Mt.jA).kind):=HC.out k 0 hlt (by omega)
    have hn:Hid (Mt.closing l i=if x+Mt.delta (l.getD k Mt.jA)=0 then k else Mt.kE (l.drop (k+1)) (x+Mt.delta (l.getD k Mt.jA)) (k+1)):=H.out.trans (Mt.zF2 l x k hlt)
    generalize hT:l.getD k Mt.jA=T at *
    clear hT H
    rcases zE8 T with ⟨e1,e2,e3⟩ | ⟨e1,e2,e3⟩ | ⟨e1,e2,e3⟩
    ·cases hz:(x+1==0)
     ·have R:Hid (Mt.closing l i=Mt.kE (l.drop (k+1)) (x+1) (k+1)):=by show _=_;rw [hn.out,e3,if_neg (by simpa using hz)]
      clear e3 hn
      go_wp2
      go_round
      case rel=>exact ⟨k+1,x+1,by omega,by omega,by omega,by omega,by go_num,rfl,R.out⟩
      case measure=>simp [intOf];omega
     ·have R:Hid (Mt.closing l i=k):=by show _=_;rw [hn.out,e3,if_pos (by simpa using hz)]
      clear e3 hn
      go_wp2
      go_ret
      exact ⟨zBz (by rw [R.out]),rfl⟩
    ·cases hz:(x-1==0)
     ·have R:Hid (Mt.closing l i=Mt.kE (l.drop (k+1)) (x-1) (k+1)):=by show _=_;rw [hn.out,e3,if_neg (by simp at hz;omega)];rfl
      clear e3 hn
      go_wp2
      go_round
      case rel=>exact ⟨k+1,x-1,by omega,by omega,by omega,by omega,by go_num,rfl,R.out⟩
      case measure=>simp [intOf];omega
     ·have R:Hid (Mt.closing l i=k):=by show _=_;rw [hn.out,e3,if_pos (by simp at hz;omega)]
      clear e3 hn
      go_wp2
      go_ret
      exact ⟨zBz (by rw [R.out]),rfl⟩
    ·cases hz:(x==0)
     ·have R:Hid (Mt.closing l i=Mt.kE (l.drop (k+1)) x (k+1)):=by show _=_;rw [hn.out,e3,if_neg (by simp at hz;omega),Int.add_zero]
      clear e3 hn
      go_wp2
      go_round
      case rel=>exact ⟨k+1,x,by omega,by omega,by omega,by omega,by go_num,rfl,R.out⟩
      case measure=>simp [intOf];omega
     ·have R:Hid (Mt.closing l i=k):=by show _=_;rw [hn.out,e3,if_pos (by simp at hz;omega)]
      clear e3 hn
      go_wp2
      go_ret
      exact ⟨zBz (by rw [R.out]),rfl⟩
   ·have hk2:k=l.length:=by omega
    have R:Hid (Mt.closing l i=l.length):=by show _=_;rw [H.out,hk2,List.drop_length];rfl
    clear H hk2
    go_wp2
    go_ret
    exact ⟨zBz (by rw [R.out]),rfl⟩
theorem zK5 (l:List Mt.Tok) (c:Int) (v:Value) (w:World) (h:toks w v l) (hl:l.length≤64) :
  Calls Tryz.prog 64 #[v,.int .i64 c] w fun e w'=>e=.returned (.bool (Mt.closed l c))∧w=w':=by
 have hk:=h
 rcases vT h with ⟨rfl,ao,cap,rfl⟩ | ⟨hp,g,cap,rfl,hcap,hg,hc⟩
 ·clear h hk
  go_enter Tryz.func64,Tryz.ntmps64
  go_wp2_with fail
  refine wp_loop_rounds 1 ?_
  rw [rounds_succ]
  go_wp2
  go_ret
  exact ⟨rfl,rfl⟩
 ·clear h
  have HK:Hid (toks w (.slice (some ⟨g,0,none⟩) l.length cap) l):=hk
  clear hk
  have HC:Hid (∀ k j,k<l.length→j<7→w.cell? ⟨g,k*7+j,none⟩=(yF (l.getD k Mt.jA))[j]?):=hc
  clear hc
  go_enter Tryz.func64,Tryz.ntmps64
  go_wp2_with fail
  go_loop [5] (fun j=>∃ k:Nat,k≤l.length∧j=.int .i64 k∧Mt.closed l c=Mt.qQ l c (l.drop k) k) (fun j=>l.length-(intOf j).toNat)
  case atStart=>exact ⟨0,Nat.zero_le _,rfl,rfl⟩
  case round =>
   obtain ⟨k,hk,rfl,hr⟩:=hrel
   have H:Hid (Mt.closed l c=Mt.qQ l c (l.drop k) k):=hr
   clear hr
   by_cases hlt:k<l.length
   ·have hc0:w.cell? ⟨g,k*7,none⟩=some (.int .i64 (l.getD k Mt.jA).kind):=HC.out k 0 hlt (by omega)
    have hc5:w.cell? ⟨g,k*7+5,none⟩=some (.int .i64 (l.getD k Mt.jA).how):=HC.out k 5 hlt (by omega)
    have hc3:w.cell? ⟨g,k*7+3,none⟩=some (.int .i64 (l.getD k Mt.jA).n):=HC.out k 3 hlt (by omega)
    have hn:Hid (Mt.closed l c=if Mt.kP (l.getD k Mt.jA)=true∧(l.getD k Mt.jA).n=c then decide (Mt.closing l k<l.length) else Mt.qQ l c (l.drop (k+1)) (k+1)):=H.out.trans (Mt.zCn l c k hlt)
    generalize hT:l.getD k Mt.jA=T at *
    clear hT H
    rcases zFb T with ⟨e1,e3⟩ | ⟨e1,e2,e3⟩ | ⟨e1,e2,e3⟩
    ·have R:Hid (Mt.closed l c=Mt.qQ l c (l.drop (k+1)) (k+1)):=by show _=_;rw [hn.out,e3];simp
     clear e3 hn
     go_wp2_with fail
     go_round
     case rel=>exact ⟨k+1,by omega,by go_num,R.out⟩
     case measure=>simp [intOf];omega
    ·have R:Hid (Mt.closed l c=Mt.qQ l c (l.drop (k+1)) (k+1)):=by show _=_;rw [hn.out,e3];simp
     clear e3 hn
     go_wp2_with fail
     go_round
     case rel=>exact ⟨k+1,by omega,by go_num,R.out⟩
     case measure=>simp [intOf];omega
    ·cases hz:(T.n==c)
     ·have R:Hid (Mt.closed l c=Mt.qQ l c (l.drop (k+1)) (k+1)):=by show _=_;rw [hn.out,e3,if_neg (by simp at hz;simp [hz])]
      clear e3 hn
      go_wp2_with fail
      go_round
      case rel=>exact ⟨k+1,by omega,by go_num,R.out⟩
      case measure=>simp [intOf];omega
     ·have R:Hid (Mt.closed l c=decide (Mt.closing l k<l.length)):=by show _=_;rw [hn.out,e3,if_pos (by simp at hz;simp [hz])]
      clear e3 hn
      go_wp2_with (first | (go_at_call 104;refine (zDb l _ _ _ HK.out hl (by omega)).mono ?_;rintro e w' ⟨rfl,rfl⟩))
      go_ret
      exact ⟨kM (by rw [R.out]),rfl⟩
   ·have hk2:k=l.length:=by omega
    have R:Hid (Mt.closed l c=false):=by show _=_;rw [H.out,hk2,List.drop_length];rfl
    clear H hk2
    go_wp2_with fail
    go_ret
    exact ⟨kM (by rw [R.out]),rfl⟩
theorem last_at (l:List Mt.Tok) (h:0<l.length):l.getLast?=some (l.getD (l.length-1) Mt.jA):=by
 rw [List.getLast?_eq_getElem?,List.getD_eq_getElem?_getD,List.getElem?_eq_getElem (by omega)];rfl
theorem zK6 (k:Int):((k==1)=true∧decide (k=1∨k=2∨k=3∨k=4∨k=7)=true)∨((k==1)=false∧(k==2)=true∧decide (k=1∨k=2∨k=3∨k=4∨k=7)=true) ∨
  ((k==1)=false∧(k==2)=false∧(k==3)=true∧decide (k=1∨k=2∨k=3∨k=4∨k=7)=true) ∨
  ((k==1)=false∧(k==2)=false∧(k==3)=false∧(k==4)=true∧decide (k=1∨k=2∨k=3∨k=4∨k=7)=true) ∨
  ((k==1)=false∧(k==2)=false∧(k==3)=false∧(k==4)=false∧(k==7)=true∧decide (k=1∨k=2∨k=3∨k=4∨k=7)=true) ∨
  ((k==1)=false∧(k==2)=false∧(k==3)=false∧(k==4)=false∧(k==7)=false∧decide (k=1∨k=2∨k=3∨k=4∨k=7)=false):=by
 simp only [beq_iff_eq,beq_eq_false_iff_ne,decide_eq_true_eq,decide_eq_false_iff_not]
 omega
theorem zH1 (l:List Mt.Tok) (v:Value) (w:World) (h:toks w v l) (hl:l.length≤64) :
  Calls Tryz.prog 65 #[v] w fun e w'=>e=.returned (.bool (Mt.yN l))∧w=w':=by
 rcases vT h with ⟨rfl,ao,cap,rfl⟩ | ⟨hp,g,cap,rfl,hcap,hg,hc⟩
 ·clear h
  go_enter Tryz.func65,Tryz.ntmps65
  go_wp2
  go_ret
  exact ⟨rfl,rfl⟩
 ·clear h
  have hc0:w.cell? ⟨g,(l.length-1)*7,none⟩=some (.int .i64 (l.getD (l.length-1) Mt.jA).kind):=hc (l.length-1) 0 (by omega) (by omega)
  clear hc
  have e:Mt.yN l=decide ((l.getD (l.length-1) Mt.jA).kind=1∨(l.getD (l.length-1) Mt.jA).kind=2∨(l.getD (l.length-1) Mt.jA).kind=3∨(l.getD (l.length-1) Mt.jA).kind=4∨(l.getD (l.length-1) Mt.jA).kind=7):=by
   unfold Mt.yN;rw [last_at l hp]
  rw [e];clear e
  generalize hT:l.getD (l.length-1) Mt.jA=T at *
  clear hT
  rcases zK6 T.kind with ⟨e1,e⟩ | ⟨e1,e2,e⟩ | ⟨e1,e2,e3,e⟩ | ⟨e1,e2,e3,e4,e⟩ | ⟨e1,e2,e3,e4,e5,e⟩ | ⟨e1,e2,e3,e4,e5,e⟩
  all_goals
   rw [e];clear e
   go_enter Tryz.func65,Tryz.ntmps65
   go_wp2
   go_ret
   exact ⟨rfl,rfl⟩
theorem zFc (l:List Mt.Tok) (i:Nat) (v:Value) (w:World) (h:toks w v l) (hl:l.length≤64) (hi:i<l.length) :
  Calls Tryz.prog 105 #[v,.int .i64 i] w fun e w'=>e=.returned (.int .i64 (Mt.after l i))∧w=w':=by
 have hcl:=Mt.zDT l i (by omega)
 have HK:Hid (toks w v l):=h
 rcases vT h with ⟨rfl,ao,cap,rfl⟩ | ⟨hp,g,cap,rfl,hcap,hg,hc⟩
 ·simp at hi
 ·have hc0:w.cell? ⟨g,i*7,none⟩=some (.int .i64 (l.getD i Mt.jA).kind):=hc i 0 hi (by omega)
  clear hc h
  have e:Mt.after l i=if (l.getD i Mt.jA).kind=6 then Mt.closing l i+1 else i+1:=rfl
  rw [e];clear e
  generalize hT:(l.getD i Mt.jA).kind=T at *
  clear hT
  cases hk:(T==6)
  ·rw [if_neg (by simpa using hk)]
   go_enter Tryz.func105,Tryz.ntmps105
   go_wp2_with fail
   go_ret
   exact ⟨zBz (by omega),rfl⟩
  ·rw [if_pos (by simpa using hk)]
   go_enter Tryz.func105,Tryz.ntmps105
   go_wp2_with (first | (go_at_call 104;refine (zDb l _ _ _ HK.out hl (by omega)).mono ?_;rintro e w' ⟨rfl,rfl⟩))
   go_ret
   exact ⟨zBz (by omega),rfl⟩
theorem zMp (l:List Mt.Tok) (a b:Nat) (v:Value) (w:World) (h:toks w v l) (hl:l.length≤64) (ha:a≤100) (hb:b≤l.length) :
  Calls Tryz.prog 66 #[v,.int .i64 a,.int .i64 b] w fun e w'=>e=.returned (.int .i64 (Mt.bar l a b))∧w=w':=by
 have HK:Hid (toks w v l):=h
 rcases vT h with ⟨rfl,ao,cap,rfl⟩ | ⟨hp,g,cap,rfl,hcap,hg,hc⟩
 ·have hb0:b=0:=by simpa using hb
  subst hb0
  clear h
  have e:Mt.bar [] a 0=0:=by rw [Mt.xH,if_pos (by omega)]
  rw [e];clear e
  go_enter Tryz.func66,Tryz.ntmps66
  go_wp2_with fail
  refine wp_loop_rounds 1 ?_
  rw [rounds_succ]
  go_wp2_with fail
  go_ret
  exact ⟨rfl,rfl⟩
 ·have HC:Hid (∀ k j,k<l.length→j<7→w.cell? ⟨g,k*7+j,none⟩=(yF (l.getD k Mt.jA))[j]?):=hc
  clear hc h
  go_enter Tryz.func66,Tryz.ntmps66
  go_wp2_with fail
  go_loop [7] (fun i=>∃ k:Nat,k≤200∧i=.int .i64 k∧Mt.bar l a b=Mt.bar l k b) (fun i=>b-(intOf i).toNat)
  case atStart=>exact ⟨a,by omega,rfl,rfl⟩
  case round =>
   obtain ⟨k,hk,rfl,hr⟩:=hrel
   have H:Hid (Mt.bar l a b=Mt.bar l k b):=hr
   clear hr
   by_cases hlt:k<b
   ·have hc0:w.cell? ⟨g,k*7,none⟩=some (.int .i64 (l.getD k Mt.jA).kind):=HC.out k 0 (by omega) (by omega)
    have hcl:=Mt.zDT l k (by omega)
    have hcg:=Mt.zBd l k
    have hst:Mt.bar l a b=if (l.getD k Mt.jA).kind=5 then k else if (l.getD k Mt.jA).kind=6 then Mt.bar l (Mt.closing l k+1) b else Mt.bar l (k+1) b:=by
     rw [H.out,Mt.xH,if_neg (by omega)];rfl
    generalize hT:(l.getD k Mt.jA).kind=T at *
    clear hT H
    cases h5:(T==5)
    ·rw [if_neg (by simpa using h5)] at hst
     cases h6:(T==6)
     ·rw [if_neg (by simpa using h6)] at hst
      have R:Hid (Mt.bar l a b=Mt.bar l (k+1) b):=hst
      clear hst
      go_wp2_with fail
      go_round
      case rel=>exact ⟨k+1,by omega,by go_num,R.out⟩
      case measure=>simp [intOf];omega
     ·rw [if_pos (by simpa using h6)] at hst
      have R:Hid (Mt.bar l a b=Mt.bar l (Mt.closing l k+1) b):=hst
      clear hst
      go_wp2_with (first | (go_at_call 104;refine (zDb l _ _ _ HK.out hl (by omega)).mono ?_;rintro e w' ⟨rfl,rfl⟩))
      go_round
      case rel=>exact ⟨Mt.closing l k+1,by omega,by go_num,R.out⟩
      case measure=>simp [intOf];omega
    ·rw [if_pos (by simpa using h5)] at hst
     have R:Hid (Mt.bar l a b=k):=hst
     clear hst
     go_wp2_with fail
     go_ret
     exact ⟨zBz (by rw [R.out]),rfl⟩
   ·have R:Hid (Mt.bar l a b=b):=by show _=_;rw [H.out,Mt.xH,if_pos (by omega)]
    clear H
    go_wp2_with fail
    go_ret
    exact ⟨zBz (by rw [R.out]),rfl⟩
end Go.Proofs.YtebpgfodelggoabGreat
