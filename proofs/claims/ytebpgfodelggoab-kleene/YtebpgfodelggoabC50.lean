import Derived.Test.YtebpgfodelggoabD1
import Derived.Test.YtebpgfodelggoabC30
set_option linter.unusedVariables false
set_option linter.unusedSimpArgs false
set_option maxRecDepth 100000
set_option maxHeartbeats 4000000
namespace Go.Proofs.Ytebpgfodelggoab
open Go.RowKit
theorem few0 (t:ByteArray) (sign:Int) (kk:Int) (w:World) (hs:I64 sign) (hk:pickI sign 9=kk) (h3:3≤kk) (h8:kk≤8) :
  Calls Try.prog 23 #[.slice none 0 0,.int .i64 sign,.string t] w fun e w'=>e=.returned (.slice none 0 0)∧w'=w:=by
 have K0:Hid (∀ z:World,Calls Try.prog 9 #[.int .i64 sign,.int .i64 9] z fun e w'=>e=.returned (.int .i64 kk)∧z=w'):=fun z=>by rw [← hk];exact kpick_any sign 9 z hs (by omega) (by omega)
 have e0:(kk==0)=false:=by simp;omega
 have e1:(kk==1)=false:=by simp;omega
 have e2:(kk==2)=false:=by simp;omega
 clear hk
 go_enter Try.func23,Try.ntmps23
 go_wp2_with fail
 refine (K0.out _).mono ?_
 rintro e w' ⟨rfl,rfl⟩
 go_wp2_with fail
 go_ret
 exact ⟨rfl,rfl⟩
theorem few1 (t:ByteArray) (sign:Int) (kk:Int) (g cap:Nat) (w:World) (hs:I64 sign) (hk:pickI sign 9=kk) (h3:3≤kk) (h4:kk≤4) :
  Calls Try.prog 23 #[.slice (some ⟨g,0,none⟩) 1 cap,.int .i64 sign,.string t] w fun e w'=>e=.returned (.slice (some ⟨g,0,none⟩) 1 cap)∧w'=w:=by
 have K0:Hid (∀ z:World,Calls Try.prog 9 #[.int .i64 sign,.int .i64 9] z fun e w'=>e=.returned (.int .i64 kk)∧z=w'):=fun z=>by rw [← hk];exact kpick_any sign 9 z hs (by omega) (by omega)
 have e0:(kk==0)=false:=by simp;omega
 have e1:(kk==1)=false:=by simp;omega
 have e2:(kk==2)=false:=by simp;omega
 have e5:decide (kk<5)=true:=by rw [decide_eq_true_eq];omega
 clear hk
 go_enter Try.func23,Try.ntmps23
 go_wp2_with fail
 refine (K0.out _).mono ?_
 rintro e w' ⟨rfl,rfl⟩
 go_wp2_with fail
 go_ret
 exact ⟨rfl,rfl⟩
theorem last_split {α:Type}:∀ (l:List α),0<l.length→∃ l0 x,l=l0++[x]
 | [],h=>by simp at h
 | [x],_=>⟨[],x,rfl⟩
 | x::y::l,_=>by
  obtain ⟨l0,z,e⟩:=last_split (y::l) (by simp)
  exact ⟨x::l0,z,by rw [e];rfl⟩
def Leaves (t:ByteArray) (base:Nat) (l:List Sh) (must:Prop) (w:World) (e:Ending) (w':World):Prop :=
 ∃ v' l',e=.returned v'∧ownSh w' base v' l'∧StackOk t l'∧l'.length≤l.length+1∧(must→l'≠[])∧(l'=[]→v'=.slice none 0 0)∧Below base w w'
theorem leaves_new {t:ByteArray} {base:Nat} {l l0:List Sh} {must:Prop} {w w':World} {v':Value} {s:Sh} (h1:ownSh w' base v' (l0++[s])) (h2:ShOk t s) (h3:StackOk t l) (h4:∀ x∈l0,x∈l) (h5:l0.length≤l.length) (hb:Below base w w'):Leaves t base l must w (.returned v') w' :=
 ⟨v',l0++[s],rfl,h1,ok_snoc (fun x hx=>h3 x (h4 x hx)) h2,by simp;omega,fun _=>by simp,fun h=>by simp at h,hb⟩
theorem leaves_old {t:ByteArray} {base:Nat} {l:List Sh} {must:Prop} {w w':World} {v:Value} (ho:ownSh w base v l) (h3:StackOk t l) (hm:must→l≠[]) (hv:l=[]→v=.slice none 0 0) (hb:base≤w.heap.size) (hB:Below w.heap.size w w'):Leaves t base l must w (.returned v) w' :=
 ⟨v,l,rfl,owns_below ho hB,h3,by omega,hm,hv,hB.mono hb⟩
theorem built_any (t:ByteArray) (sign:Int) (base:Nat) (v:Value) (l:List Sh) (w:World) (ht:t.size≤10) (hs:I64 sign) (hb:base≤w.heap.size) (ho:ownSh w base v l) (hl:l.length≤100) (hok:StackOk t l) (hv:l=[]→v=.slice none 0 0) :
  Calls Try.prog 23 #[v,.int .i64 sign,.string t] w fun e w'=>Leaves t base l (pickI sign 9≤2∨l≠[]) w e w':=by
 obtain ⟨kk,hk⟩:∃ kk,kk=pickI sign 9:=⟨_,rfl⟩
 have hk':=pickI_in sign 9 (by omega)
 rw [← hk] at hk' ⊢
 have hcase:kk=0∨kk=1∨kk=2∨3≤kk:=by omega
 by_cases hn:l=[]
 ·have hv0:=hv hn
  subst hv0
  rcases hcase with rfl | rfl | rfl | h3
  ·refine (push0_nil t sign base l hn w ht hs hk.symm hb ho hl hok).mono ?_
   rintro e w' ⟨v',s,rfl,h1,h2,h3⟩
   exact leaves_new h1 h2 hok (fun x h=>h) (Nat.le_refl _) h3
  ·refine (push1_nil t sign base l hn w ht hs hk.symm hb ho hl hok).mono ?_
   rintro e w' ⟨v',s,rfl,h1,h2,h3⟩
   exact leaves_new h1 h2 hok (fun x h=>h) (Nat.le_refl _) h3
  ·refine (push2_nil t sign base l hn w ht hs hk.symm hb ho hl hok).mono ?_
   rintro e w' ⟨v',s,rfl,h1,h2,h3⟩
   exact leaves_new h1 h2 hok (fun x h=>h) (Nat.le_refl _) h3
  ·refine (few0 t sign kk w hs hk.symm h3 (by omega)).mono ?_
   rintro e w' ⟨rfl,rfl⟩
   exact leaves_old ho hok (fun h=>by rcases h with h | h;omega;exact absurd hn h) (fun _=>rfl) hb (Below.refl _ _)
 ·have hpos:0<l.length:=List.length_pos_iff.2 hn
  obtain ⟨g,cap,rfl,hg0,hg,hc1,hc2,hr,hc⟩:=own_form ho hpos
  rcases hcase with rfl | rfl | rfl | h3
  ·refine (push0_some t sign base l g cap w ht hs hk.symm hb ho hl hok).mono ?_
   rintro e w' ⟨v',s,rfl,h1,h2,h3⟩
   exact leaves_new h1 h2 hok (fun x h=>h) (Nat.le_refl _) h3
  ·refine (push1_some t sign base l g cap w ht hs hk.symm hb ho hl hok).mono ?_
   rintro e w' ⟨v',s,rfl,h1,h2,h3⟩
   exact leaves_new h1 h2 hok (fun x h=>h) (Nat.le_refl _) h3
  ·refine (push2_some t sign base l g cap w ht hs hk.symm hb ho hl hok).mono ?_
   rintro e w' ⟨v',s,rfl,h1,h2,h3⟩
   exact leaves_new h1 h2 hok (fun x h=>h) (Nat.le_refl _) h3
  ·obtain ⟨l0,x,rfl⟩:=last_split l hpos
   have hlen:(l0++[x]).length=l0.length+1:=by simp
   have hx:ShOk t x:=hok x (by simp)
   have hrx:w.rangeAt g (l0.length*123) x.L:=by
    have:=hr l0.length (by simp)
    simpa using this
   have hcx:∀ j u,(l0.flatMap Sh.L)[j]?=some u→w.cell? ((⟨g,0,none⟩:Addr).add j)=some u:=fun j u hu=>hc l0.length j u (by rw [List.take_left];exact hu)
   by_cases h5:5≤kk
   ·have fin:∀ {e w'},((e=.returned (.slice (some ⟨g,0,none⟩) (l0.length+1) cap)∧Below w.heap.size w w')∨∃ v' s,e=.returned v'∧ownSh w' base v' (l0++[s])∧ShOk t s∧Below base w w')→Leaves t base (l0++[x]) (kk≤2∨l0++[x]≠[]) w e w':=by
     intro e w' h
     rcases h with ⟨rfl,hB⟩ | ⟨v',s,rfl,h1,h2,h3⟩
     ·rw [← hlen]
      exact leaves_old ho hok (fun _=>by simp) (fun h=>by simp at h) hb hB
     ·exact leaves_new h1 h2 hok (fun y h=>by simp [h]) (by simp) h3
    rw [hlen]
    have hk58:kk=5∨kk=6∨kk=7∨kk=8:=by omega
    rcases hk58 with rfl | rfl | rfl | rfl
    ·exact (one5 t sign base l0 x g cap w ht hs hk.symm hb hg (by omega) hc2 (by omega) hx hrx hcx).mono fun e w' h=>fin h
    ·exact (one6 t sign base l0 x g cap w ht hs hk.symm hb hg (by omega) hc2 (by omega) hx hrx hcx).mono fun e w' h=>fin h
    ·exact (one7 t sign base l0 x g cap w ht hs hk.symm hb hg (by omega) hc2 (by omega) hx hrx hcx).mono fun e w' h=>fin h
    ·exact (one8 t sign base l0 x g cap w ht hs hk.symm hb hg (by omega) hc2 (by omega) hx hrx hcx).mono fun e w' h=>fin h
   ·by_cases h0:l0=[]
    ·subst h0
     refine (few1 t sign kk g cap w hs hk.symm h3 (by omega)).mono ?_
     rintro e w' ⟨rfl,rfl⟩
     exact leaves_old ho hok (fun _=>by simp) (fun h=>by simp at h) hb (Below.refl _ _)
    ·obtain ⟨l1,y,rfl⟩:=last_split l0 (List.length_pos_iff.2 h0)
     have hlen2:(l1++[y]++[x]).length=l1.length+2:=by simp
     have hy:ShOk t y:=hok y (by simp)
     have hry:w.rangeAt g (l1.length*123) y.L:=by
      have:=hr l1.length (by simp)
      simpa using this
     have hrx2:w.rangeAt g ((l1.length+1)*123) x.L:=by
      have:=hrx
      rw [List.length_append] at this
      exact this
     have hcy:∀ j u,(l1.flatMap Sh.L)[j]?=some u→w.cell? ((⟨g,0,none⟩:Addr).add j)=some u:=fun j u hu=>hc l1.length j u (by rw [List.append_assoc,List.take_left];exact hu)
     have fin:∀ {e w'},((e=.returned (.slice (some ⟨g,0,none⟩) (l1.length+2) cap)∧Below w.heap.size w w')∨∃ v' s,e=.returned v'∧ownSh w' base v' (l1++[s])∧ShOk t s∧Below base w w')→Leaves t base (l1++[y]++[x]) (kk≤2∨l1++[y]++[x]≠[]) w e w':=by
      intro e w' h
      rcases h with ⟨rfl,hB⟩ | ⟨v',s,rfl,h1,h2,h3⟩
      ·rw [← hlen2]
       exact leaves_old ho hok (fun _=>by simp) (fun h=>by simp at h) hb hB
      ·exact leaves_new h1 h2 hok (fun z h=>by simp [h]) (by simp) h3
     rw [hlen2]
     have hk34:kk=3∨kk=4:=by omega
     rcases hk34 with rfl | rfl
     ·exact (two3 t sign base l1 y x g cap w ht hs hk.symm hb hg (by omega) hc2 (by omega) hy hx hry hrx2 hcy).mono fun e w' h=>fin h
     ·exact (two4 t sign base l1 y x g cap w ht hs hk.symm hb hg (by omega) hc2 (by omega) hy hx hry hrx2 hcy).mono fun e w' h=>fin h
end Go.Proofs.Ytebpgfodelggoab
