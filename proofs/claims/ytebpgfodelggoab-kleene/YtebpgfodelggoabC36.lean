import Derived.Test.YtebpgfodelggoabC35
import Derived.Test.YtebpgfodelggoabC13
import Derived.Deep.QuietTactic
import Derived.BigQuiet
set_option linter.unusedVariables false
set_option linter.unusedSimpArgs false
set_option maxRecDepth 100000
set_option maxHeartbeats 4000000
namespace Go.Proofs.Ytebpgfodelggoab
open Go.RowKit
section
variable {k:Pk} {w:World} {steps:Int} {hd:List Bool} {room:Int} {wo:Option Addr} {wc:Nat} {W:List (List Int)}
theorem hasOne_prog (h:PlayAt k w steps hd room wo wc W) (pos:Nat) (ht:k.t.size≤60) (p:ByteArray) (hp:p.size≤256) (hpos:pos≤60):Calls Try.prog 89 #[.pointer (some ⟨k.g,0,none⟩),.int .i64 (pos:Nat),.string p] w fun e w'=>e=.returned (.bool (if (pos:Int)<k.t.size then Mt.hasB p (Mt.byI k.t pos) else false))∧Below w.heap.size w w':=by
 obtain ⟨c0,c1,c2,c3,c4,c5,c6,c7,c8,c9,hf⟩:=h.cells
 have hg:k.g<w.heap.size:=h.lt.1
 clear h hf c0 c2 c3 c4 c5 c6 c7 c8 c9
 generalize k.g=g at *
 generalize k.t=t at *
 by_cases hlt:pos<t.size
 ·have hlt':(pos:Int)<t.size:=by omega
  rw [if_pos hlt']
  have hby:Mt.byI t pos=((t[pos]'hlt).toNat:Int):=by unfold Mt.byI;rw [dif_pos hlt]
  rw [hby]
  have hno:decide ((pos:Int)≥(t.size:Int))=false:=by simp;omega
  go_enter Try.func89,Try.ntmps89
  go_wp2_with fail
  go_loopw [7] (fun i wr=>∃ j:Nat,j≤p.size∧i=.int .i64 j∧Mt.hasTo p ((t[pos]'hlt).toNat:Int) j=false∧Below w.heap.size w wr) (fun i _=>p.size-(intOf i).toNat)
  case atStart=>exact ⟨0,Nat.zero_le _,rfl,rfl,Below.refl _ _⟩
  case round =>
   obtain ⟨j,hj,rfl,hr,hbr⟩:=hrel
   have d1:wr.cell? ⟨g,1,none⟩=some (.string t):=by rw [hbr.cell (p:=⟨g,1,none⟩) hg];exact c1
   have HR:Hid (Mt.hasTo p ((t[pos]'hlt).toNat:Int) j=false):=hr
   have HBR:Hid (Below w.heap.size w wr):=hbr
   clear hr hbr
   by_cases hjl:j<p.size
   ·cases hq:(((p[j]'hjl).toNat:Int)==((t[pos]'hlt).toNat:Int))
    ·have HN:Hid (Mt.hasTo p ((t[pos]'hlt).toNat:Int) (j+1)=false):=by show _=_;rw [Mt.hasTo_next p _ j hjl,HR.out,hq];rfl
     go_wp2_with fail
     go_region
     go_wp2_with fail
     go_roundw
     case rel=>exact ⟨j+1,by omega,by go_num,HN.out,HBR.out.drew⟩
     case measure=>simp [intOf];omega
    ·have HE:Hid (Mt.hasB p ((t[pos]'hlt).toNat:Int)=true):=Mt.hasB_hit p _ j hjl hq
     go_wp2_with fail
     go_region
     go_wp2_with fail
     go_ret
     exact ⟨ret_bool (by rw [HE.out]),HBR.out.drew⟩
   ·have HE:Hid (Mt.hasB p ((t[pos]'hlt).toNat:Int)=false):=by
     have:=HR.out
     rwa [show j=p.size by omega,Mt.hasTo_all] at this
    go_wp2_with fail
    go_ret
    exact ⟨ret_bool (by rw [HE.out]),HBR.out⟩
 ·rw [if_neg (by omega)]
  have hno:decide ((pos:Int)≥(t.size:Int))=true:=by simp;omega
  go_enter Try.func89,Try.ntmps89
  go_wp2_with fail
  go_ret
  exact ⟨rfl,Below.refl _ _⟩
end
section
variable {k:Pk} {w:World} {steps:Int} {hd:List Bool} {room:Int} {wo:Option Addr} {wc:Nat} {W:List (List Int)}
theorem hasAgain_prog (h:PlayAt k w steps hd room wo wc W) (pos a n:Nat) (ht:k.t.size≤60) (hpos:pos≤k.t.size) (ha:a+n≤k.t.size):Calls Try.prog 90 #[.pointer (some ⟨k.g,0,none⟩),.int .i64 (pos:Nat),.int .i64 (a:Nat),.int .i64 (n:Nat)] w fun e w'=>e=.returned (.bool (if (k.t.size:Int)<pos+n then false else Mt.agTo k.t pos a n))∧∃ m,w'=w.drewN m:=by
 obtain ⟨c0,c1,c2,c3,c4,c5,c6,c7,c8,c9,hf⟩:=h.cells
 have hg:k.g<w.heap.size:=h.lt.1
 clear h hf c0 c2 c3 c4 c5 c6 c7 c8 c9
 generalize k.g=g at *
 generalize k.t=t at *
 by_cases hlt:(t.size:Int)<pos+n
 ·rw [if_pos hlt]
  have hno:decide ((n:Int)>(t.size:Int)-pos)=true:=by simp;omega
  go_enter Try.func90,Try.ntmps90
  go_wp2_with fail
  go_ret
  exact ⟨rfl,0,rfl⟩
 ·rw [if_neg hlt]
  have hno:decide ((n:Int)>(t.size:Int)-pos)=false:=by simp;omega
  have hpn:pos+n≤t.size:=by omega
  clear hlt
  go_enter Try.func90,Try.ntmps90
  go_wp2_with fail
  go_loopw [9] (fun i wr=>∃ j:Nat,j≤n∧i=.int .i64 j∧Mt.agTo t pos a j=true∧∃ m,wr=w.drewN m) (fun i _=>n-(intOf i).toNat)
  case atStart=>exact ⟨0,Nat.zero_le _,rfl,rfl,0,rfl⟩
  case round =>
   obtain ⟨j,hj,rfl,hr,m,hbr⟩:=hrel
   have d1:wr.cell? ⟨g,1,none⟩=some (.string t):=by rw [hbr];exact c1
   have HR:Hid (Mt.agTo t pos a j=true):=hr
   have HBR:Hid (wr=w.drewN m):=hbr
   clear hr hbr
   by_cases hjl:j<n
   ·have p1:pos+j<t.size:=by omega
    have p2:a+j<t.size:=by omega
    have i1:(pos:Int)+j<t.size:=by omega
    have i2:(a:Int)+j<t.size:=by omega
    have i3:(0:Int)≤(a:Int)+j:=by omega
    have i4:(0:Int)≤(pos:Int)+j:=by omega
    have HN:Hid (Mt.agTo t pos a (j+1)=(((t[pos+j]'p1).toNat:Int)==((t[a+j]'p2).toNat:Int))):=by show _=_;rw [Mt.agTo_next,HR.out,Bool.true_and,Mt.byI_in t _ p1,Mt.byI_in t _ p2]
    cases hq:(((t[pos+j]'p1).toNat:Int)==((t[a+j]'p2).toNat:Int))
    ·have HE:Hid (Mt.agTo t pos a n=false):=by
      show _=_
      have:=Mt.agTo_less t pos a (j+1) (n-(j+1)) (by rw [HN.out,hq])
      rw [show j+1+(n-(j+1))=n by omega] at this;exact this
     have hq':(((t[pos+j]'p1).toNat:Int) != ((t[a+j]'p2).toNat:Int))=true:=by simp only [bne,hq];rfl
     go_wp2_with fail
     go_region
     go_wp2_with fail
     go_ret
     exact ⟨ret_bool (by rw [HE.out]),m+1,by rw [HBR.out];rfl⟩
    ·have hq':(((t[pos+j]'p1).toNat:Int) != ((t[a+j]'p2).toNat:Int))=false:=by simp only [bne,hq];rfl
     go_wp2_with fail
     go_region
     go_wp2_with fail
     go_roundw
     case rel=>exact ⟨j+1,by omega,by go_num,by rw [HN.out,hq],m+1,by rw [HBR.out];rfl⟩
     case measure=>simp [intOf];omega
   ·have HE:Hid (Mt.agTo t pos a n=true):=by
     have:=HR.out
     rwa [show j=n by omega] at this
    go_wp2_with fail
    go_ret
    exact ⟨ret_bool (by rw [HE.out]),m,HBR.out⟩
end
theorem closeGroup_prog (w:World) (b:Nat) (q:List Int) (hq:q.length=43) (hb:w.heap[b]?=some (.cells (stA q) 100 (0,0))) (x:Nat) (hx:x<10):Calls Try.prog 70 #[.pointer (some ⟨b,0,none⟩),.int .i64 (x:Nat)] w fun e w'=>e=.returned (.tuple #[])∧w'.heap[b]?=some (.cells (stA ((q.set (2+2*x) (Mt.gt q (22+x))).set (2+(2*x+1)) (Mt.gt q 1))) 100 (0,0))∧(∀ L,L≤b→Below L w w')∧(∀ j,j≠b→w'.heap[j]?=w.heap[j]?)∧w'.heap.size=w.heap.size:=by
 have hcb:=cell_block hb
 have c1:w.cell? ⟨b,1,none⟩=some (.int .i64 (Mt.gt q 1)):=by rw [hcb.1 1];exact stA_at q 1 (by omega)
 have cn:w.cell? ⟨b,22+x,none⟩=some (.int .i64 (Mt.gt q (22+x))):=by rw [hcb.1 _];exact stA_at q _ (by omega)
 have ca:w.cell? ⟨b,2+2*x,none⟩=some (.int .i64 (Mt.gt q (2+2*x))):=by rw [hcb.1 _];exact stA_at q _ (by omega)
 have cb:w.cell? ⟨b,2+(2*x+1),none⟩=some (.int .i64 (Mt.gt q (2+(2*x+1)))):=by rw [hcb.1 _];exact stA_at q _ (by omega)
 have fa:=hcb.2 (2+2*x)
 have fb:=hcb.2 (2+(2*x+1))
 have HBk:Hid (w.heap[b]?=some (.cells (stA q) 100 (0,0))):=hb
 clear hcb hb
 go_enter Try.func70,Try.ntmps70
 go_wp2_with fail
 go_region
 go_wp2_with fail
 have T1:=Go.heap_setCell_same w b (2+2*x) _ _ (.int .i64 (Mt.gt q (22+x))) HBk.out
 rw [stA_set q hq] at T1
 have BL:∀ L,L≤b→Below L w (w.setCell ⟨b,2+2*x,none⟩ (.int .i64 (Mt.gt q (22+x)))).drew:=fun L hL=>((Below.refl L w).setCell (p:=⟨b,2+2*x,none⟩) hL _).drew
 have OT:∀ j,j≠b→(w.setCell ⟨b,2+2*x,none⟩ (.int .i64 (Mt.gt q (22+x)))).drew.heap[j]?=w.heap[j]?:=fun j hj=>Below.heap_setCell _ _ _ _ hj
 have SZ:(w.setCell ⟨b,2+2*x,none⟩ (.int .i64 (Mt.gt q (22+x)))).drew.heap.size=w.heap.size:=by simp [World.setCell]
 have T1':(w.setCell ⟨b,2+2*x,none⟩ (.int .i64 (Mt.gt q (22+x)))).drew.heap[b]?=some (.cells (stA (q.set (2+2*x) (Mt.gt q (22+x)))) 100 (0,0)):=T1
 have HBL:Hid (∀ L,L≤b→Below L w (w.setCell ⟨b,2+2*x,none⟩ (.int .i64 (Mt.gt q (22+x)))).drew):=BL
 have HOT:Hid (∀ j,j≠b→(w.setCell ⟨b,2+2*x,none⟩ (.int .i64 (Mt.gt q (22+x)))).drew.heap[j]?=w.heap[j]?):=OT
 have HSZ:Hid ((w.setCell ⟨b,2+2*x,none⟩ (.int .i64 (Mt.gt q (22+x)))).drew.heap.size=w.heap.size):=SZ
 clear T1 BL OT SZ ca cb c1 cn fa fb HBk
 generalize (w.setCell ⟨b,2+2*x,none⟩ (.int .i64 (Mt.gt q (22+x)))).drew=w1 at *
 have e1:Mt.gt (q.set (2+2*x) (Mt.gt q (22+x))) 1=Mt.gt q 1:=Mt.gt_set_ne _ _ _ _ (by omega)
 have hcb:=cell_block T1'
 have c1:w1.cell? ⟨b,1,none⟩=some (.int .i64 (Mt.gt q 1)):=by rw [hcb.1 1,← e1];exact stA_at _ 1 (by omega)
 have cb:w1.cell? ⟨b,2+(2*x+1),none⟩=some (.int .i64 (Mt.gt (q.set (2+2*x) (Mt.gt q (22+x))) (2+(2*x+1)))):=by rw [hcb.1 _];exact stA_at _ _ (by omega)
 have fb:=hcb.2 (2+(2*x+1))
 have hq1:(q.set (2+2*x) (Mt.gt q (22+x))).length=43:=by simp [hq]
 have HBk:Hid (w1.heap[b]?=some (.cells (stA (q.set (2+2*x) (Mt.gt q (22+x)))) 100 (0,0))):=T1'
 clear T1' hcb e1
 generalize hq1e:q.set (2+2*x) (Mt.gt q (22+x))=q1 at *
 generalize Mt.gt q1 (2+(2*x+1))=z at *
 generalize hye:Mt.gt q 1=y at *
 go_region
 go_wp2_with fail
 have T2:=Go.heap_setCell_same w1 b (2+(2*x+1)) _ _ (.int .i64 y) HBk.out
 rw [stA_set q1 hq1] at T2
 go_returns
 refine ⟨rfl,by rw [hq1e,hye];exact T2,fun L hL=>(HBL.out L hL).trans ((Below.refl L w1).setCell (p:=⟨b,2+(2*x+1),none⟩) hL _).drew,fun j hj=>?_,?_⟩
 ·exact (Below.heap_setCell _ _ _ _ hj).trans (HOT.out j hj)
 ·rw [← HSZ.out];simp [World.setCell]
structure Ctx (k:Pk) (E:Mt.Env) (A:Int→Mt.Att):Prop where
 ec:E.c=k.c
 et:E.t=k.t
 known:Mt.Known k.c A
 ar:∀ p,p<k.c.length→E.ar.getD p 0=Mt.loopsAt k.c p
 arN:∀ p,E.arN p≤11
 lp:∀ p,p<k.c.length→k.lp.getD p 0=(E.arN p:Int)
 sl:∀ p,p<k.c.length→k.sl.getD p 0=if E.inn.getD p false=true then (E.base p:Int) else -1
 t60:k.t.size≤60
 bud:0≤k.budget∧k.budget≤10000
section
variable {k:Pk} {w:World} {steps:Int} {hd:List Bool} {room:Int} {wo:Option Addr} {wc:Nat} {W:List (List Int)}
theorem PlayAt.lpAt (h:PlayAt k w steps hd room wo wc W) (p:Nat) (hp:p<k.c.length):w.cell? ⟨k.gl,p,none⟩=some (.int .i64 (k.lp.getD p 0)):=by
 have hl:=h.ll
 rw [World.ownsRow.cellAt h.lps p (by omega),List.getD_eq_getElem?_getD,List.getElem?_map,List.getElem?_eq_getElem (by omega)];rfl
theorem PlayAt.slAt (h:PlayAt k w steps hd room wo wc W) (p:Nat) (hp:p<k.c.length):w.cell? ⟨k.gs,p,none⟩=some (.int .i64 (k.sl.getD p 0)):=by
 have hl:=h.ls
 rw [World.ownsRow.cellAt h.sls p (by omega),List.getD_eq_getElem?_getD,List.getElem?_map,List.getElem?_eq_getElem (by omega)];rfl
theorem PlayAt.hdAt (h:PlayAt k w steps hd room wo wc W) (p:Nat) (hp:p<hd.length):w.cell? ⟨k.gh,p,none⟩=some (.bool (hd.getD p false))∧w.frozen? ⟨k.gh,p,none⟩=false:=by
 refine ⟨?_,World.ownsRow.frozenAt h.hds p⟩
 rw [World.ownsRow.cellAt h.hds p (by omega),List.getD_eq_getElem?_getD,List.getElem?_map,List.getElem?_eq_getElem (by omega)];rfl
theorem slotOf_prog (h:PlayAt k w steps hd room wo wc W) (q:List Int) (pc pos a B:Nat) (hp0:Mt.gt q 0=pc) (hp1:Mt.gt q 1=pos) (hpc:pc<k.c.length) (hc:k.c.length≤300) (hpos:pos≤k.t.size) (ht:k.t.size≤60) (hlp:k.lp.getD pc 0=(a:Int)) (ha:a≤11) (hsl:k.sl.getD pc 0=(B:Int)) (hB:B≤300000) :
  Calls Try.prog 69 #[.pointer (some ⟨k.g,4,none⟩),.agg (stA q)] w fun e w'=>e=.returned (.int .i64 ((B+Mt.levelTo q a*(k.t.size+1)+pos:Nat):Int))∧Below w.heap.size w w':=by
 obtain ⟨c0,c1,c2,c3,c4,c5,c6,c7,c8,c9,hf⟩:=h.cells
 have hg:k.g<w.heap.size:=h.lt.1
 have hgl:k.gl<w.heap.size:=h.lt.2.2.1
 have hgs:k.gs<w.heap.size:=h.lt.2.2.2.1
 have cl:=h.lpAt pc hpc
 have cs:=h.slAt pc hpc
 rw [hlp] at cl
 rw [hsl] at cs
 clear h hf c0 c1 c2 c3 c7 c8 c9 hlp hsl
 have hpc':(pc:Int)<(k.c.length:Int):=by omega
 generalize k.g=g at *
 generalize k.t.size=T at *
 generalize k.c.length=CL at *
 generalize k.gl=gl at *
 generalize k.gs=gs at *
 generalize k.cl=ccl at *
 generalize k.cs=ccs at *
 go_enter Try.func69,Try.ntmps69
 go_upto_region 1 with fail
 generalize hW1:w.alloc (.cells (stA q) 100)=W1 at *
 have B1:Below w.heap.size w W1:=by rw [← hW1];exact (Below.refl _ _).alloc (Nat.le_refl _) _
 have T1:W1.heap[w.heap.size]?=some (.cells (stA q) 100 (0,0)):=by rw [← hW1];exact heap_alloc_new _ _
 have Z1:W1.heap.size=w.heap.size+1:=by rw [← hW1];simp
 clear hW1
 have HT:Hid (∀ j,j<43→∀ z:World,Below W1.heap.size W1 z→z.cell? ⟨w.heap.size,j,none⟩=some (.int .i64 (Mt.gt q j))):=fun j hj z hz=>by
  rw [World.cell?_of_block (a:=⟨w.heap.size,j,none⟩) (hz.block w.heap.size (by omega)),(cell_block T1).1 j];exact stA_at q j hj
 have HCL:Hid (∀ z:World,Below W1.heap.size W1 z→z.cell? ⟨g,5,none⟩=some (.slice (some ⟨gl,0,none⟩) CL ccl)∧z.cell? ⟨g,6,none⟩=some (.slice (some ⟨gs,0,none⟩) CL ccs)∧z.cell? ⟨g,4,none⟩=some (.int .i64 ((T:Int)+1))∧z.cell? ⟨gl,pc,none⟩=some (.int .i64 a)∧z.cell? ⟨gs,pc,none⟩=some (.int .i64 B)):=fun z hz=>by
  have o:∀ b j,b<w.heap.size→z.cell? ⟨b,j,none⟩=w.cell? ⟨b,j,none⟩:=fun b j hb=>World.cell?_of_block (a:=⟨b,j,none⟩) ((hz.block b (by omega)).trans (B1.block b hb))
  exact ⟨(o _ _ hg).trans c5,(o _ _ hg).trans c6,(o _ _ hg).trans c4,(o _ _ hgl).trans cl,(o _ _ hgs).trans cs⟩
 have HB1:Hid (Below w.heap.size w W1):=B1
 have hZ:w.heap.size≤W1.heap.size:=by omega
 clear T1 B1 Z1 c4 c5 c6 cl cs
 generalize hnn:w.heap.size=n at *
 go_wp2_with fail
 go_loopw [5,6] (fun e i wr=>∃ j:Nat,j≤a∧i=.int .i64 j∧e=.int .i64 (Mt.levelTo q j:Nat)∧Below W1.heap.size W1 wr) (fun _ i _=>a-(intOf i).toNat)
 case atStart=>exact ⟨0,Nat.zero_le _,rfl,rfl,Below.refl _ _⟩
 case round =>
  obtain ⟨j,hj,rfl,rfl,hbr⟩:=hrel
  obtain ⟨d5,d6,d4,dl,ds⟩:=HCL.out wr hbr
  have x0:=HT.out 0 (by omega) wr hbr
  have x1:=HT.out 1 (by omega) wr hbr
  rw [hp0] at x0
  rw [hp1] at x1
  have HBR:Hid (Below W1.heap.size W1 wr):=hbr
  have lv:=Mt.levelTo_le q j
  by_cases hlt:j<a
  ·have xm:=HT.out (32+j) (by omega) wr hbr
   have hlt':decide ((j:Int)<(a:Int))=true:=by simp;omega
   have hj11:(j:Int)<11:=by omega
   have HN:Hid (Mt.levelTo q (j+1)=Mt.levelTo q j+if Mt.gt q (32+j)==Mt.gt q 1 then 1 else 0):=Mt.levelTo_next q j
   rw [hp1] at HN
   clear hbr
   cases hq:(Mt.gt q (32+j)==(pos:Int))
   ·have HN':Hid (Mt.levelTo q (j+1)=Mt.levelTo q j):=by show _=_;rw [HN.out,hq];rfl
    clear HN
    generalize Mt.levelTo q j=lj at *
    generalize Mt.gt q (32+j)=mj at *
    go_wp2_with fail
    go_region
    go_wp2_with fail
    go_region
    go_wp2_with fail
    go_roundw
    case rel=>exact ⟨j+1,by omega,by go_num,by rw [HN'.out],HBR.out.drew.drew⟩
    case measure=>simp [intOf];omega
   ·have HN':Hid (Mt.levelTo q (j+1)=Mt.levelTo q j+1):=by show _=_;rw [HN.out,hq];rfl
    clear HN
    generalize Mt.levelTo q j=lj at *
    generalize Mt.gt q (32+j)=mj at *
    go_wp2_with fail
    go_region
    go_wp2_with fail
    go_region
    go_wp2_with fail
    go_roundw
    case rel=>exact ⟨j+1,by omega,by go_num,by rw [HN'.out];go_num,HBR.out.drew.drew⟩
    case measure=>simp [intOf];omega
  ·have e:j=a:=by omega
   subst e
   have hlt':decide ((j:Int)<(j:Int))=false:=by simp
   clear hbr
   generalize hlje:Mt.levelTo q j=lj at *
   have hmul:((lj*(T+1):Nat):Int)=(lj:Int)*((T:Int)+1):=by push_cast;rfl
   have hb1:lj*(T+1)≤11*61:=Nat.mul_le_mul (by omega) (by omega)
   go_wp2_with fail
   go_region
   go_wp2_with fail
   go_region
   go_wp2_with fail
   go_ret
   refine ⟨?_,by rw [hnn];exact HB1.out.trans ((HBR.out.drew.drew).mono hZ)⟩
   show Ending.returned (.int .i64 ((B:Int)+(lj:Int)*((T:Int)+1)+(pos:Int)))=_
   rw [hlje]
   have:(((B+lj*(T+1)+pos:Nat)):Int)=(B:Int)+(lj:Int)*((T:Int)+1)+(pos:Int):=by push_cast;rfl
   rw [this]
end
section
variable {k:Pk} {E:Mt.Env} {A:Int→Mt.Att} {w:World} {steps:Int} {hd kn:List Bool} {room:Int} {wo:Option Addr} {wc:Nat} {W:List (List Int)}
theorem ends_out (h:PlayAt k w steps hd room wo wc W) (q:List Int) (pc:Nat) (hp0:Mt.gt q 0=pc) (hpc:pc<k.c.length) (hc:k.c.length≤300) (hsl:k.sl.getD pc 0=-1) :
  Calls Try.prog 58 #[.pointer (some ⟨k.g,4,none⟩),.agg (stA q)] w fun e w'=>e=.returned (.bool false)∧Below w.heap.size w w':=by
 obtain ⟨c0,c1,c2,c3,c4,c5,c6,c7,c8,c9,hf⟩:=h.cells
 have hg:k.g<w.heap.size:=h.lt.1
 have hgs:k.gs<w.heap.size:=h.lt.2.2.2.1
 have cs:=h.slAt pc hpc
 rw [hsl] at cs
 clear h hf c0 c1 c2 c3 c4 c5 c7 c8 c9 hsl
 have hpc':(pc:Int)<(k.c.length:Int):=by omega
 generalize k.g=g at *
 generalize k.c.length=CL at *
 generalize k.gs=gs at *
 generalize k.cs=ccs at *
 go_enter Try.func58,Try.ntmps58
 go_upto_region 1 with fail
 generalize hW1:w.alloc (.cells (stA q) 100)=W1 at *
 have HB1:Hid (Below w.heap.size w W1):=by rw [← hW1];exact (Below.refl _ _).alloc (Nat.le_refl _) _
 have T1:W1.heap[w.heap.size]?=some (.cells (stA q) 100 (0,0)):=by rw [← hW1];exact heap_alloc_new _ _
 have x0:W1.cell? ⟨w.heap.size,0,none⟩=some (.int .i64 pc):=by rw [(cell_block T1).1 0,← hp0];exact stA_at q 0 (by omega)
 have d6:W1.cell? ⟨g,6,none⟩=some (.slice (some ⟨gs,0,none⟩) CL ccs):=(World.cell?_of_block (a:=⟨g,6,none⟩) (HB1.out.block g hg)).trans c6
 have ds:W1.cell? ⟨gs,pc,none⟩=some (.int .i64 (-1)):=(World.cell?_of_block (a:=⟨gs,pc,none⟩) (HB1.out.block gs hgs)).trans cs
 clear hW1 c6 cs T1
 go_region
 go_wp2_with fail
 go_ret
 exact ⟨rfl,HB1.out.drew⟩
theorem ends_in (h:PlayAt k w steps hd room wo wc W) (q:List Int) (pc S B:Nat) (hp0:Mt.gt q 0=pc) (hpc:pc<k.c.length) (hc:k.c.length≤300) (hsl:k.sl.getD pc 0=(B:Int)) (hS:S<hd.length) (hhl:hd.length≤300000) (hr:0≤room∧room≤5000)
  (hcall:∀ z:World,PlayAt k z steps hd room wo wc W→Calls Try.prog 69 #[.pointer (some ⟨k.g,4,none⟩),.agg (stA q)] z fun e w'=>e=.returned (.int .i64 (S:Nat))∧Below z.heap.size z w') :
  Calls Try.prog 58 #[.pointer (some ⟨k.g,4,none⟩),.agg (stA q)] w fun e w'=>e=.returned (.bool (hd.getD S false))∧PStep k wo wo w w' ∧
   PlayAt k w' steps (Mt.deadKn hd room S) (Mt.deadRoom hd room S) wo wc W:=by
 obtain ⟨c0,c1,c2,c3,c4,c5,c6,c7,c8,c9,hf⟩:=h.cells
 have hg:k.g<w.heap.size:=h.lt.1
 have hgs:k.gs<w.heap.size:=h.lt.2.2.2.1
 have cs:=h.slAt pc hpc
 rw [hsl] at cs
 have HP0:Hid (PlayAt k w steps hd room wo wc W):=h
 have HC:Hid (∀ z:World,PlayAt k z steps hd room wo wc W→Calls Try.prog 69 #[.pointer (some ⟨k.g,4,none⟩),.agg (stA q)] z fun e w'=>e=.returned (.int .i64 (S:Nat))∧Below z.heap.size z w'):=hcall
 clear h hf c0 c1 c2 c3 c4 c5 c7 c8 c9 hsl hcall
 have hpc':(pc:Int)<(k.c.length:Int):=by omega
 generalize hkg:k.g=g at *
 generalize k.c.length=CL at *
 generalize k.gs=gs at *
 generalize k.cs=ccs at *
 go_enter Try.func58,Try.ntmps58
 go_upto_region 1 with fail
 generalize hW1:w.alloc (.cells (stA q) 100)=W1 at *
 have HB1:Hid (Below w.heap.size w W1):=by rw [← hW1];exact (Below.refl _ _).alloc (Nat.le_refl _) _
 have T1:W1.heap[w.heap.size]?=some (.cells (stA q) 100 (0,0)):=by rw [← hW1];exact heap_alloc_new _ _
 have x0:W1.cell? ⟨w.heap.size,0,none⟩=some (.int .i64 pc):=by rw [(cell_block T1).1 0,← hp0];exact stA_at q 0 (by omega)
 have d6:W1.cell? ⟨g,6,none⟩=some (.slice (some ⟨gs,0,none⟩) CL ccs):=(World.cell?_of_block (a:=⟨g,6,none⟩) (HB1.out.block g hg)).trans c6
 have ds:W1.cell? ⟨gs,pc,none⟩=some (.int .i64 B):=(World.cell?_of_block (a:=⟨gs,pc,none⟩) (HB1.out.block gs hgs)).trans cs
 have hne:((B:Int)==-1)=false:=by rw [beq_eq_false_iff_ne];omega
 clear hW1 c6 cs
 have T2:W1.drew.heap[w.heap.size]?=some (.cells (stA q) 100 (0,0)):=T1
 have HB2:Hid (Below w.heap.size w W1.drew):=HB1.out.drew
 clear T1
 generalize hn:w.heap.size=n at *
 go_region
 go_wp2_with (refine load_blk 100 43 Try.underlying100 rfl Try.sizeSt (by rfl) (.tmp 3) (by rfl) n (by rfl) T2 (stA_size q) ?_)
 have HP2:PlayAt k W1.drew steps hd room wo wc W:=HP0.out.below (by rw [hn];exact HB2.out)
 have HK:=HC.out W1.drew HP2
 have HKH:Hid (Calls Try.prog 69 #[.pointer (some ⟨g,4,none⟩),.agg (stA q)] W1.drew fun e w'=>e=.returned (.int .i64 (S:Nat))∧Below W1.drew.heap.size W1.drew w'):=HK
 clear HP2 HK x0 d6 ds T2
 refine HKH.out.mono ?_
 rintro e w2 ⟨rfl,hb2⟩
 have HB3:Below w.heap.size w w2:=by rw [hn];exact HB2.out.trans (hb2.mono (by have:=HB2.out.size;omega))
 have HP3:PlayAt k w2 steps hd room wo wc W:=HP0.out.below HB3
 clear hb2 HKH HB2 HB1
 obtain ⟨c0,c1,c2,c3,c4,c5,c6,c7,c8,c9,hf⟩:=HP3.cells
 obtain ⟨ch,fh⟩:=HP3.hdAt S hS
 have f8:=hf 8
 rw [hkg] at c7 c8 f8
 have hSl:(S:Int)<(hd.length:Int):=by omega
 have HP3H:Hid (PlayAt k w2 steps hd room wo wc W):=HP3
 have HB3H:Hid (Below w.heap.size w w2):=HB3
 have hhg:k.gh≠g:=by rw [← hkg];exact HP3.apg.2.2.2
 have hgg:g<w2.heap.size:=by rw [← hkg];exact HP3.lt.1
 clear HP3 HB3 c0 c1 c2 c3 c4 c5 c6 c9 hf
 generalize hgh:k.gh=gh at *
 generalize hch:k.ch=cch at *
 cases hb:hd.getD S false
 ·rw [hb] at ch
  cases hrm:decide (room>0)
  ·have hr0:¬ 0<room:=by simpa using hrm
   go_wp2_with fail
   go_ret
   refine ⟨by rw [hb];rfl,PStep.below HB3H.out,?_⟩
   have e1:Mt.deadKn hd room S=hd:=by unfold Mt.deadKn;rw [hb,if_neg Bool.false_ne_true,if_neg (by omega)]
   have e2:Mt.deadRoom hd room S=room:=by unfold Mt.deadRoom;rw [hb,if_neg Bool.false_ne_true,if_neg (by omega)]
   rw [e1,e2]
   exact HP3H.out
  ·have hr0:0<room:=by simpa using hrm
   go_wp2_with fail
   go_ret
   have e1:Mt.deadKn hd room S=hd.set S true:=by unfold Mt.deadKn;rw [hb,if_neg Bool.false_ne_true,if_pos hr0]
   have e2:Mt.deadRoom hd room S=room-1:=by unfold Mt.deadRoom;rw [hb,if_neg Bool.false_ne_true,if_pos hr0]
   rw [e1,e2]
   have M:=(HP3H.out.setHeld S).setRoom (room-1)
   rw [hkg,hgh] at M
   refine ⟨by rw [hb];rfl,?_,M⟩
   exact ((PStep.below HB3H.out).set (p:=⟨gh,S,none⟩) (Or.inr (Or.inl hgh.symm)) _).set (p:=⟨g,8,none⟩) (Or.inl hkg.symm) _
 ·rw [hb] at ch
  go_wp2_with fail
  go_ret
  refine ⟨by rw [hb];rfl,PStep.below HB3H.out,?_⟩
  have e1:Mt.deadKn hd room S=hd:=by unfold Mt.deadKn;rw [hb,if_pos rfl]
  have e2:Mt.deadRoom hd room S=room:=by unfold Mt.deadRoom;rw [hb,if_pos rfl]
  rw [e1,e2]
  exact HP3H.out
theorem ends_prog (hx:Ctx k E A) (h:PlayAt k w steps hd room wo wc W) (ht:Mt.Tab E hd kn) (hkn:kn.length=E.c.length*(E.t.size+1)*12) (q:List Int) (h0:0≤Mt.gt q 0∧Mt.gt q 0<k.c.length) (h1:0≤Mt.gt q 1∧Mt.gt q 1≤k.t.size) (hr:0≤room∧room≤5000) :
  Calls Try.prog 58 #[.pointer (some ⟨k.g,4,none⟩),.agg (stA q)] w fun e w'=>e=.returned (.bool (E.dead q kn))∧PStep k wo wo w w'∧∃ hd',PlayAt k w' steps hd' (E.room' q kn room) wo wc W∧Mt.Tab E hd' (E.kn' q kn room):=by
 have hpc:Mt.gt q 0=(Mt.pcOf q:Nat):=by unfold Mt.pcOf;omega
 have hpos:Mt.gt q 1=(Mt.posOf q:Nat):=by unfold Mt.posOf;omega
 have hl:=hx.known.len
 have hpl:Mt.pcOf q<k.c.length:=by omega
 cases hi:E.isIn q
 ·have hni:¬ E.inn.getD (Mt.pcOf q) false=true:=by
   have:E.inn.getD (Mt.pcOf q) false=false:=hi
   rw [this];exact Bool.false_ne_true
  have hs:=hx.sl _ hpl
  rw [if_neg hni] at hs
  obtain ⟨n1,n2,n3⟩:=E.not_in q kn room hi
  rw [n1,n2,n3]
  refine (ends_out h q _ hpc hpl hl hs).mono ?_
  rintro e w' ⟨rfl,hb⟩
  exact ⟨rfl,PStep.below hb,hd,h.below hb,ht⟩
 ·have hin:E.inn.getD (Mt.pcOf q) false=true:=hi
  have hs:=hx.sl _ hpl
  rw [if_pos hin] at hs
  have hpc2:Mt.pcOf q<E.c.length:=by rw [hx.ec];exact hpl
  have hps2:Mt.posOf q≤E.t.size:=by rw [hx.et];omega
  obtain ⟨a1,a2,a3,a4⟩:=ht.ask hkn hx.arN q room hpc2 hps2 hi
  have hbl:=E.base_le hx.arN
  have hlen:hd.length≤300000:=by
   rw [ht.len]
   refine Nat.le_trans (hbl _) ?_
   rw [hx.ec,hx.et]
   have:=hx.t60
   exact Nat.le_trans (Nat.mul_le_mul hl (Nat.mul_le_mul_right 12 (show k.t.size+1≤61 by omega))) (by omega)
  have hB:E.base (Mt.pcOf q)≤300000:=by
   refine Nat.le_trans (hbl _) ?_
   rw [hx.et]
   have:=hx.t60
   exact Nat.le_trans (Nat.mul_le_mul (show Mt.pcOf q≤300 by omega) (Nat.mul_le_mul_right 12 (show k.t.size+1≤61 by omega))) (by omega)
  have hcall:∀ z:World,PlayAt k z steps hd room wo wc W→Calls Try.prog 69 #[.pointer (some ⟨k.g,4,none⟩),.agg (stA q)] z fun e w'=>e=.returned (.int .i64 (E.slot (Mt.pcOf q) (Mt.posOf q) (Mt.levelTo q (E.arN (Mt.pcOf q))):Nat))∧Below z.heap.size z w':=fun z hz=>by
   have:=slotOf_prog hz q _ _ _ _ hpc hpos hpl hl (by omega) hx.t60 (hx.lp _ hpl) (hx.arN _) hs hB
   unfold Mt.Env.slot
   rw [hx.et];exact this
  refine (ends_in h q _ _ _ hpc hpl hl hs a2 hlen hr hcall).mono ?_
  rintro e w' ⟨rfl,hst,hp⟩
  cases hd0:E.dead q kn
  ·have hne:¬ hd.getD (E.slot (Mt.pcOf q) (Mt.posOf q) (Mt.levelTo q (E.arN (Mt.pcOf q)))) false=true:=by rw [a1,hd0];exact Bool.false_ne_true
   by_cases hrm:0<room
   ·have e1:Mt.deadKn hd room (E.slot (Mt.pcOf q) (Mt.posOf q) (Mt.levelTo q (E.arN (Mt.pcOf q))))=hd.set (E.slot (Mt.pcOf q) (Mt.posOf q) (Mt.levelTo q (E.arN (Mt.pcOf q)))) true:=by unfold Mt.deadKn;rw [if_neg hne,if_pos hrm]
    have e2:Mt.deadRoom hd room (E.slot (Mt.pcOf q) (Mt.posOf q) (Mt.levelTo q (E.arN (Mt.pcOf q))))=room-1:=by unfold Mt.deadRoom;rw [if_neg hne,if_pos hrm]
    rw [e1,e2] at hp
    obtain ⟨u1,u2⟩:=(a4 hd0).1 hrm
    exact ⟨by rw [a1,hd0],hst,_,by rw [u2];exact hp,u1⟩
   ·have e1:Mt.deadKn hd room (E.slot (Mt.pcOf q) (Mt.posOf q) (Mt.levelTo q (E.arN (Mt.pcOf q))))=hd:=by unfold Mt.deadKn;rw [if_neg hne,if_neg hrm]
    have e2:Mt.deadRoom hd room (E.slot (Mt.pcOf q) (Mt.posOf q) (Mt.levelTo q (E.arN (Mt.pcOf q))))=room:=by unfold Mt.deadRoom;rw [if_neg hne,if_neg hrm]
    rw [e1,e2] at hp
    obtain ⟨u1,u2⟩:=(a4 hd0).2 hrm
    exact ⟨by rw [a1,hd0],hst,_,by rw [u2];exact hp,by rw [u1];exact ht⟩
  ·have hne:hd.getD (E.slot (Mt.pcOf q) (Mt.posOf q) (Mt.levelTo q (E.arN (Mt.pcOf q)))) false=true:=by rw [a1,hd0]
   have e1:Mt.deadKn hd room (E.slot (Mt.pcOf q) (Mt.posOf q) (Mt.levelTo q (E.arN (Mt.pcOf q))))=hd:=by unfold Mt.deadKn;rw [if_pos hne]
   have e2:Mt.deadRoom hd room (E.slot (Mt.pcOf q) (Mt.posOf q) (Mt.levelTo q (E.arN (Mt.pcOf q))))=room:=by unfold Mt.deadRoom;rw [if_pos hne]
   rw [e1,e2] at hp
   obtain ⟨u1,u2⟩:=a3 hd0
   exact ⟨by rw [a1,hd0],hst,_,by rw [u2];exact hp,by rw [u1];exact ht⟩
end
def Waits (k:Pk) (wo:Option Addr) (w:World) (steps:Int) (hd:List Bool) (room:Int) (W:List (List Int)) (w':World):Prop:=∃ wo' wc',PlayAt k w' steps hd room wo' wc' W∧PStep k wo wo' w w'
def addIf (W:List (List Int)) (b:Bool) (q:List Int):List (List Int):=W++if b=true then [q] else []
theorem addIf_no (W:List (List Int)) (q:List Int):addIf W false q=W:=by simp [addIf]
theorem addIf_yes (W:List (List Int)) (q:List Int):addIf W true q=W++[q]:=by simp [addIf]
section
variable {k:Pk} {w:World} {steps:Int} {hd:List Bool} {room:Int} {wo:Option Addr} {wc:Nat} {W:List (List Int)}
theorem waits_none (h:PlayAt k w steps hd room wo wc W) {w':World} (hb:Below w.heap.size w w'):Waits k wo w steps hd room W w':=⟨wo,wc,h.below hb,PStep.below hb⟩
theorem two_boxes (w:World) (q:List Int) (x:Mt.Ins):∃ W1,W1=(w.alloc (.cells (stA q) 100)).alloc (.cells (insA x) 70)∧Below w.heap.size w W1∧W1.heap[w.heap.size]?=some (.cells (stA q) 100 (0,0))∧W1.heap[w.heap.size+1]?=some (.cells (insA x) 70 (0,0))∧W1.heap.size=w.heap.size+2 :=
 ⟨_,rfl,((Below.refl _ _).alloc (Nat.le_refl _) _).alloc (by simp) _,heap_b2 _ _ _,heap_b3 _ _ _,by simp⟩
theorem compare_one (h:PlayAt k w steps hd room wo wc W) (q:List Int) (hq:q.length=43) (pc pos:Nat) (hp0:Mt.gt q 0=pc) (hp1:Mt.gt q 1=pos) (hpc:pc≤300) (hpos:pos≤k.t.size) (ht:k.t.size≤60) (hn:W.length≤100000) (x:Mt.Ins) (ho:(x.op==1)=true) (hs:x.set.length≤256) :
  Calls Try.prog 72 #[.pointer (some ⟨k.g,0,none⟩),.agg (stA q),.agg (insA x)] w fun e w'=>e=.returned (.tuple #[])∧Waits k wo w steps hd room (addIf W (Mt.oneP k.t q x).2 (Mt.oneP k.t q x).1) w':=by
 have ho1:x.op=1:=by simpa using ho
 have HE:Mt.oneP k.t q x=((q.set 1 ((pos:Int)+1)).set 0 ((pc:Int)+1),if (pos:Int)<k.t.size then Mt.hasB ⟨x.set.toArray⟩ (Mt.byI k.t pos) else false):=by
  unfold Mt.oneP
  rw [if_pos ho1,hp0,hp1]
  rfl
 rw [HE]
 clear HE ho1
 obtain ⟨W1,hW1,B1,T1,U1,Z1⟩:=two_boxes w q x
 have HP0:Hid (PlayAt k w steps hd room wo wc W):=h
 have HP1:PlayAt k W1 steps hd room wo wc W:=h.below B1
 have HH:Hid (Calls Try.prog 89 #[.pointer (some ⟨k.g,0,none⟩),.int .i64 (pos:Nat),.string ⟨x.set.toArray⟩] W1 _):=hasOne_prog HP1 pos ht ⟨x.set.toArray⟩ (by rw [show (ByteArray.mk x.set.toArray).size=x.set.length from List.size_toArray ..];exact hs) (by omega)
 have x0:∀ z:World,z.heap[w.heap.size]?=some (.cells (stA q) 100 (0,0))→z.cell? ⟨w.heap.size,0,none⟩=some (.int .i64 pc)∧z.cell? ⟨w.heap.size,1,none⟩=some (.int .i64 pos)∧z.frozen? ⟨w.heap.size,1,none⟩=false:=fun z hz=>⟨by rw [(cell_block hz).1 0,← hp0];exact stA_at q 0 (by omega),by rw [(cell_block hz).1 1,← hp1];exact stA_at q 1 (by omega),(cell_block hz).2 1⟩
 obtain ⟨x00,x11,_⟩:=x0 W1 T1
 have HX:Hid (∀ z:World,z.heap[w.heap.size]?=some (.cells (stA q) 100 (0,0))→z.cell? ⟨w.heap.size,0,none⟩=some (.int .i64 pc)∧z.cell? ⟨w.heap.size,1,none⟩=some (.int .i64 pos)∧z.frozen? ⟨w.heap.size,1,none⟩=false):=x0
 have i0:W1.cell? ⟨w.heap.size+1,0,none⟩=some (.int .i64 x.op):=(cell_block U1).1 0
 have i3:W1.cell? ⟨w.heap.size+1,3,none⟩=some (.string ⟨x.set.toArray⟩):=(cell_block U1).1 3
 have HB1:Hid (Below w.heap.size w W1):=B1
 have HT1:Hid (W1.heap[w.heap.size]?=some (.cells (stA q) 100 (0,0))):=T1
 clear h x0 B1 U1 T1 HP1
 generalize hb:(if (pos:Int)<k.t.size then Mt.hasB ⟨x.set.toArray⟩ (Mt.byI k.t pos) else false)=b at *
 generalize hgg:k.g=g at *
 go_enter Try.func72,Try.ntmps72
 go_upto_region 1 with fail
 rw [← hW1]
 clear hW1
 generalize hnn:w.heap.size=n at *
 go_wp2_with fail
 refine HH.out.mono ?_
 rintro e w2 ⟨rfl,hb2⟩
 have HB2:Hid (Below n w w2):=HB1.out.trans (hb2.mono (by omega))
 have T2:w2.heap[n]?=some (.cells (stA q) 100 (0,0)):=(hb2.block n (by omega)).trans HT1.out
 obtain ⟨y0,y1,f1⟩:=HX.out w2 T2
 have Z2:=hb2.size
 clear hb2 HH x00 x11 i0 i3 HT1 HX
 cases b
 ·go_wp2_with fail
  go_returns
  refine ⟨rfl,?_⟩
  rw [addIf_no]
  exact waits_none HP0.out (by rw [hnn];exact HB2.out)
 ·have HT2:Hid (w2.heap[n]?=some (.cells (stA q) 100 (0,0))):=T2
  have T3:(w2.setCell ⟨n,1,none⟩ (.int .i64 ((pos:Int)+1))).heap[n]?=some (.cells (stA (q.set 1 ((pos:Int)+1))) 100 (0,0)):=by
   rw [← stA_set q hq];exact Go.heap_setCell_same w2 n 1 _ _ _ T2
  have B3:Below n w (w2.setCell ⟨n,1,none⟩ (.int .i64 ((pos:Int)+1))):=HB2.out.setCell (p:=⟨n,1,none⟩) (Nat.le_refl _) _
  have HP3:PlayAt k (w2.setCell ⟨n,1,none⟩ (.int .i64 ((pos:Int)+1))) steps hd room wo wc W:=HP0.out.below (by rw [hnn];exact B3)
  have HWT:Hid (Calls Try.prog 57 #[.pointer (some ⟨k.g,0,none⟩),.agg (stA (q.set 1 ((pos:Int)+1))),.int .i64 ((pc:Int)+1)] (w2.setCell ⟨n,1,none⟩ (.int .i64 ((pos:Int)+1))) _):=wait_prog (q.set 1 ((pos:Int)+1)) ((pc:Int)+1) (by simp [hq]) HP3 (by omega)
  rw [hgg] at HWT
  have HB3:Hid (Below n w (w2.setCell ⟨n,1,none⟩ (.int .i64 ((pos:Int)+1)))):=B3
  clear T2 B3 HP3
  go_wp2_with (refine load_blk 100 43 Try.underlying100 rfl Try.sizeSt (by rfl) (.tmp 4) (by rfl) n (by rfl) T3 (stA_size _) ?_)
  refine HWT.out.mono ?_
  rintro e w4 ⟨rfl,wo',wc',hP,hS⟩
  have HF:Hid (Waits k wo w steps hd room (W++[(q.set 1 ((pos:Int)+1)).set 0 ((pc:Int)+1)]) w4):=⟨wo',wc',hP,(PStep.below (by rw [hnn];exact HB3.out)).trans hS⟩
  clear hP hS
  go_wp2_with fail
  go_returns
  exact ⟨rfl,by rw [addIf_yes];exact HF.out⟩
end
theorem set_self (q:List Int) (i:Nat) (v:Int) (h:Mt.gt q i=v):q.set i v=q:=by
 apply List.ext_getElem?
 intro j
 rw [List.getElem?_set]
 by_cases h1:i=j
 ·subst h1
  by_cases h2:i<q.length
  ·subst h;simp [h2,Mt.gt]
  ·simp [h2]
 ·simp [h1]
section
variable {k:Pk} {w:World} {steps:Int} {hd:List Bool} {room:Int} {wo:Option Addr} {wc:Nat} {W:List (List Int)}
theorem compare_head (h:PlayAt k w steps hd room wo wc W) (q:List Int) (hq:q.length=43) (pc pos:Nat) (hp0:Mt.gt q 0=pc) (hp1:Mt.gt q 1=pos) (hpc:pc≤300) (hpos:pos≤k.t.size) (ht:k.t.size≤60) (hn:W.length≤100000) (x:Mt.Ins) (n1:(x.op==1)=false) (n8:(x.op==8)=false) (ho:(x.op==9)=true) :
  Calls Try.prog 72 #[.pointer (some ⟨k.g,0,none⟩),.agg (stA q),.agg (insA x)] w fun e w'=>e=.returned (.tuple #[])∧Waits k wo w steps hd room (addIf W (Mt.oneP k.t q x).2 (Mt.oneP k.t q x).1) w':=by
 have ho1:x.op=9:=by simpa using ho
 have HE:Mt.oneP k.t q x=(q.set 0 ((pc:Int)+1),(pos:Int)==0):=by
  unfold Mt.oneP
  rw [if_neg (by omega),if_neg (by omega),if_neg (by omega),if_neg (by omega),if_neg (by omega),if_neg (by omega),if_neg (by omega),if_pos ho1,hp0,hp1]
 rw [HE]
 clear HE ho1
 obtain ⟨W1,hW1,B1,T1,U1,Z1⟩:=two_boxes w q x
 have HP0:Hid (PlayAt k w steps hd room wo wc W):=h
 have HP1:PlayAt k W1 steps hd room wo wc W:=h.below B1
 obtain ⟨_,c1,_⟩:=HP1.cells
 have x0:∀ z:World,z.heap[w.heap.size]?=some (.cells (stA q) 100 (0,0))→z.cell? ⟨w.heap.size,0,none⟩=some (.int .i64 pc)∧z.cell? ⟨w.heap.size,1,none⟩=some (.int .i64 pos)∧z.frozen? ⟨w.heap.size,1,none⟩=false:=fun z hz=>⟨by rw [(cell_block hz).1 0,← hp0];exact stA_at q 0 (by omega),by rw [(cell_block hz).1 1,← hp1];exact stA_at q 1 (by omega),(cell_block hz).2 1⟩
 obtain ⟨x00,x11,f11⟩:=x0 W1 T1
 have i0:W1.cell? ⟨w.heap.size+1,0,none⟩=some (.int .i64 x.op):=(cell_block U1).1 0
 have HB1:Hid (Below w.heap.size w W1):=B1
 have HT1:Hid (W1.heap[w.heap.size]?=some (.cells (stA q) 100 (0,0))):=T1
 have HS:Hid (q.set 1 (pos:Int)=q):=set_self q 1 _ hp1
 clear h x0 B1 U1 T1
 cases hb:((pos:Int)==0)
 ·clear HP1
  generalize hgg:k.g=g at *
  generalize hgt:k.t=t at *
  go_enter Try.func72,Try.ntmps72
  go_upto_region 1 with fail
  rw [← hW1]
  clear hW1
  generalize hnn:w.heap.size=n at *
  go_wp2_with fail
  go_returns
  refine ⟨rfl,?_⟩
  rw [addIf_no]
  exact waits_none HP0.out (by rw [hnn];exact HB1.out)
 ·have T3:(W1.setCell ⟨w.heap.size,1,none⟩ (.int .i64 (pos:Int))).heap[w.heap.size]?=some (.cells (stA q) 100 (0,0)):=by
   have:=Go.heap_setCell_same W1 w.heap.size 1 _ _ (.int .i64 (pos:Int)) HT1.out
   rw [stA_set q hq,HS.out] at this;exact this
  have B3:Below w.heap.size w (W1.setCell ⟨w.heap.size,1,none⟩ (.int .i64 (pos:Int))):=(HB1.out).setCell (p:=⟨w.heap.size,1,none⟩) (Nat.le_refl _) _
  have HP3:PlayAt k (W1.setCell ⟨w.heap.size,1,none⟩ (.int .i64 (pos:Int))) steps hd room wo wc W:=HP0.out.below B3
  have HWT:Hid (Calls Try.prog 57 #[.pointer (some ⟨k.g,0,none⟩),.agg (stA q),.int .i64 ((pc:Int)+1)] (W1.setCell ⟨w.heap.size,1,none⟩ (.int .i64 (pos:Int))) _):=wait_prog q ((pc:Int)+1) hq HP3 (by omega)
  have HB3:Hid (Below w.heap.size w (W1.setCell ⟨w.heap.size,1,none⟩ (.int .i64 (pos:Int)))):=B3
  clear B3 HP3 HP1
  generalize hgg:k.g=g at *
  generalize hgt:k.t=t at *
  go_enter Try.func72,Try.ntmps72
  go_upto_region 1 with fail
  rw [← hW1]
  clear hW1
  generalize hnn:w.heap.size=n at *
  go_wp2_with (refine load_blk 100 43 Try.underlying100 rfl Try.sizeSt (by rfl) (.tmp 4) (by rfl) n (by rfl) T3 (stA_size _) ?_)
  refine HWT.out.mono ?_
  rintro e w4 ⟨rfl,wo',wc',hP,hS⟩
  have HF:Hid (Waits k wo w steps hd room (W++[q.set 0 ((pc:Int)+1)]) w4):=⟨wo',wc',hP,(PStep.below (by rw [hnn];exact HB3.out)).trans hS⟩
  clear hP hS
  go_wp2_with fail
  go_returns
  exact ⟨rfl,by rw [addIf_yes];exact HF.out⟩
theorem compare_tail (h:PlayAt k w steps hd room wo wc W) (q:List Int) (hq:q.length=43) (pc pos:Nat) (hp0:Mt.gt q 0=pc) (hp1:Mt.gt q 1=pos) (hpc:pc≤300) (hpos:pos≤k.t.size) (ht:k.t.size≤60) (hn:W.length≤100000) (x:Mt.Ins) (n1:(x.op==1)=false) (n8:(x.op==8)=false) (n9:(x.op==9)=false) (ho:(x.op==10)=true) :
  Calls Try.prog 72 #[.pointer (some ⟨k.g,0,none⟩),.agg (stA q),.agg (insA x)] w fun e w'=>e=.returned (.tuple #[])∧Waits k wo w steps hd room (addIf W (Mt.oneP k.t q x).2 (Mt.oneP k.t q x).1) w':=by
 have ho1:x.op=10:=by simpa using ho
 have HE:Mt.oneP k.t q x=(q.set 0 ((pc:Int)+1),(pos:Int)==(k.t.size:Int)):=by
  unfold Mt.oneP
  rw [if_neg (by omega),if_neg (by omega),if_neg (by omega),if_neg (by omega),if_neg (by omega),if_neg (by omega),if_neg (by omega),if_neg (by omega),if_pos ho1,hp0,hp1]
 rw [HE]
 clear HE ho1
 obtain ⟨W1,hW1,B1,T1,U1,Z1⟩:=two_boxes w q x
 have HP0:Hid (PlayAt k w steps hd room wo wc W):=h
 have HP1:PlayAt k W1 steps hd room wo wc W:=h.below B1
 obtain ⟨_,c1,_⟩:=HP1.cells
 have x0:∀ z:World,z.heap[w.heap.size]?=some (.cells (stA q) 100 (0,0))→z.cell? ⟨w.heap.size,0,none⟩=some (.int .i64 pc)∧z.cell? ⟨w.heap.size,1,none⟩=some (.int .i64 pos)∧z.frozen? ⟨w.heap.size,1,none⟩=false:=fun z hz=>⟨by rw [(cell_block hz).1 0,← hp0];exact stA_at q 0 (by omega),by rw [(cell_block hz).1 1,← hp1];exact stA_at q 1 (by omega),(cell_block hz).2 1⟩
 obtain ⟨x00,x11,f11⟩:=x0 W1 T1
 have i0:W1.cell? ⟨w.heap.size+1,0,none⟩=some (.int .i64 x.op):=(cell_block U1).1 0
 have HB1:Hid (Below w.heap.size w W1):=B1
 have HT1:Hid (W1.heap[w.heap.size]?=some (.cells (stA q) 100 (0,0))):=T1
 have HS:Hid (q.set 1 (pos:Int)=q):=set_self q 1 _ hp1
 clear h x0 B1 U1 T1
 cases hb:((pos:Int)==(k.t.size:Int))
 ·clear HP1
  generalize hgg:k.g=g at *
  generalize hgt:k.t=t at *
  go_enter Try.func72,Try.ntmps72
  go_upto_region 1 with fail
  rw [← hW1]
  clear hW1
  generalize hnn:w.heap.size=n at *
  go_wp2_with fail
  go_region
  go_wp2_with fail
  go_returns
  refine ⟨rfl,?_⟩
  rw [addIf_no]
  exact waits_none HP0.out (by rw [hnn];exact HB1.out.drew)
 ·have T3:(W1.drew.setCell ⟨w.heap.size,1,none⟩ (.int .i64 (pos:Int))).heap[w.heap.size]?=some (.cells (stA q) 100 (0,0)):=by
   have:=Go.heap_setCell_same W1.drew w.heap.size 1 _ _ (.int .i64 (pos:Int)) HT1.out
   rw [stA_set q hq,HS.out] at this;exact this
  have B3:Below w.heap.size w (W1.drew.setCell ⟨w.heap.size,1,none⟩ (.int .i64 (pos:Int))):=(HB1.out.drew).setCell (p:=⟨w.heap.size,1,none⟩) (Nat.le_refl _) _
  have HP3:PlayAt k (W1.drew.setCell ⟨w.heap.size,1,none⟩ (.int .i64 (pos:Int))) steps hd room wo wc W:=HP0.out.below B3
  have HWT:Hid (Calls Try.prog 57 #[.pointer (some ⟨k.g,0,none⟩),.agg (stA q),.int .i64 ((pc:Int)+1)] (W1.drew.setCell ⟨w.heap.size,1,none⟩ (.int .i64 (pos:Int))) _):=wait_prog q ((pc:Int)+1) hq HP3 (by omega)
  have HB3:Hid (Below w.heap.size w (W1.drew.setCell ⟨w.heap.size,1,none⟩ (.int .i64 (pos:Int)))):=B3
  clear B3 HP3 HP1
  generalize hgg:k.g=g at *
  generalize hgt:k.t=t at *
  go_enter Try.func72,Try.ntmps72
  go_upto_region 1 with fail
  rw [← hW1]
  clear hW1
  generalize hnn:w.heap.size=n at *
  go_wp2_with (refine load_blk 100 43 Try.underlying100 rfl Try.sizeSt (by rfl) (.tmp 4) (by rfl) n (by rfl) T3 (stA_size _) ?_)
  go_region
  go_wp2_with (refine load_blk 100 43 Try.underlying100 rfl Try.sizeSt (by rfl) (.tmp 4) (by rfl) n (by rfl) T3 (stA_size _) ?_)
  refine HWT.out.mono ?_
  rintro e w4 ⟨rfl,wo',wc',hP,hS⟩
  have HF:Hid (Waits k wo w steps hd room (W++[q.set 0 ((pc:Int)+1)]) w4):=⟨wo',wc',hP,(PStep.below (by rw [hnn];exact HB3.out)).trans hS⟩
  clear hP hS
  go_wp2_with fail
  go_returns
  exact ⟨rfl,by rw [addIf_yes];exact HF.out⟩
end
end Go.Proofs.Ytebpgfodelggoab
