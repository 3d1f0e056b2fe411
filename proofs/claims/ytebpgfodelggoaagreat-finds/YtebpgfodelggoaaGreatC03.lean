import Derived.Test.YtebpgfodelggoaaGreatC02
import Derived.Laws.AppendOwnNone
set_option linter.unusedVariables false
set_option linter.unusedSimpArgs false
set_option maxRecDepth 100000
set_option maxHeartbeats 2000000
namespace Go.Proofs.YtebpgfodelggoaaGreat
open Go.RowKit
theorem zEC {w:World} {base g cap:Nat} {c:List Mt.Ins} (h:zB w base (.slice (some ⟨g,0,none⟩) c.length cap) c):∀ j u,(c.flatMap zT)[j]?=some u→w.cell? ((⟨g,0,none⟩:Addr).add j)=some u :=
 World.ownsRow.cells h rfl
theorem zI1 {a b:List Mt.Ins} (h:300<a.length):Mt.behind a b=a:=by unfold Mt.behind;rw [if_pos h]
theorem zHJ {a b:List Mt.Ins} (h:a.length≤300):Mt.behind a b=a++Mt.moved b a.length:=by unfold Mt.behind;rw [if_neg (by omega)]
theorem zB.join {w:World} {base:Nat} {v:Value} {a b:List Mt.Ins} (h:w.ownsRow base 112 4 v (a.length+b.length) (a.flatMap zT++b.flatMap zT)):zB w base v (a++b):=by
 unfold zB;rw [List.length_append,List.flatMap_append];exact h
theorem kD (a b:List Mt.Ins) (va vb:Value) (w:World) (ha:zB w 0 va a) (hb:zB w 0 vb b) (fa:Mt.fit 900000000 a) (fb:Mt.fit 900000000 b) :
  Calls Tryz.prog 72 #[va,vb] w fun e w'=>∃ v',e=.returned v'∧zB w' 0 v' (Mt.behind a b)∧Below w.heap.size w w':=by
 have la:=fa.1
 have lb:=fb.1
 have fb':=Mt.zJ fb (show (900000000:Int)≤1000000000 by omega)
 obtain ⟨i0,hi,hz0,hz1,hz2⟩:=info_parts Tryz.info49
 have HA:Hid (zB w 0 va a):=ha
 have HB:Hid (zB w 0 vb b):=hb
 have HF:Hid (Mt.fit 1000000000 b):=fb'
 clear fa fb fb' hb
 have HL:Hid ((Mt.moved b (a.length:Int)).length=b.length):=Mt.jV b (a.length:Int)
 by_cases hlt:300<a.length
 ·rw [zI1 hlt]
  rcases zAq ha with ⟨rfl,_⟩ | ⟨hp,g,cap,rfl,hcap,hg,hgb,hc⟩
  ·simp at hlt
  ·clear hc ha
   go_enter Tryz.func72,Tryz.ntmps72
   go_wp2_with fail
   go_ret
   exact ⟨_,rfl,HA.out,Below.refl _ _⟩
 ·rw [zHJ (by omega)]
  rcases ha.2 with ⟨rfl,hn⟩ | ⟨g,cap,cur,rfl,_,_,_,_,_,_⟩
  ·have hn0:a=[]:=List.length_eq_zero_iff.1 hn
   subst hn0
   clear ha
   go_enter Tryz.func72,Tryz.ntmps72
   go_wp2_with fail
   refine (zHI b _ 0 vb _ HB.out HF.out (by omega) (by omega)).mono ?_
   rintro e w1 ⟨v',rfl,hm,hb1⟩
   rcases hm.2 with ⟨rfl,hn'⟩ | ⟨g,cap,cur,rfl,_,_,_,_,_,_⟩
   ·have HM:Hid (zB w1 w.heap.size (.slice none 0 0) (Mt.moved b 0)):=hm
    clear hm
    go_wp2_with (first | (at_builtin;refine wpList_append_own_none rfl (.tmp 15) (.tmp 16) 40 rfl w.heap.size 112 i0 4 Tryz.underlying40 hi _ 0 [] rfl (World.ownsRow_nil _ _ _ _) rfl ?_) | (at_builtin;refine wpList_append_own_none rfl (.tmp 18) (.tmp 19) 40 rfl w.heap.size 112 i0 4 Tryz.underlying40 hi _ 0 [] rfl (World.ownsRow_nil _ _ _ _) rfl ?_))
    go_ret
    exact ⟨_,rfl,HM.out.base (Nat.zero_le _),hb1⟩
   ·have HM:Hid (zB w1 w.heap.size (.slice (some ⟨g,0,none⟩) (Mt.moved b 0).length cap) (Mt.moved b 0)):=hm
    have hsz:=hb1.size
    clear hm
    go_wp2_with (first | (at_builtin;refine wpList_append_own_none rfl (.tmp 15) (.tmp 16) 40 rfl w.heap.size 112 i0 4 Tryz.underlying40 hi _ 0 [] rfl (World.ownsRow_nil _ _ _ _) rfl ?_) | (at_builtin;refine wpList_append_own _ rfl (.tmp 18) (.tmp 19) 40 rfl w.heap.size 112 i0 _ 4 40 Tryz.underlying40 hi hz0 hz1 hz2 rfl (by decide) _ 0 [] rfl (World.ownsRow_nil _ _ _ _) ⟨g,0,none⟩ _ cap ((Mt.moved b 0).flatMap zT) rfl (zBk _) (zEC HM.out) (zBO _) ?_ ?_ ?_ ?_;rotate_right))
    ·intro v2 w2 hown2 hgrow _
     have R1:Hid (zB w2 w.heap.size v2 (Mt.moved b 0)):=by show zB _ _ _ _;simpa [zB] using hown2
     have R2:Below w.heap.size w w2:=hb1.grown hgrow hsz (fun q hq'=>by simp [Value.ownBlock] at hq')
     clear hown2 hgrow
     go_wp2_with fail
     go_ret
     exact ⟨_,rfl,R1.out.base (Nat.zero_le _),R2⟩
    ·unfold maxLen;have hl0:=HL.out;simp only [List.length_nil,Int.natCast_zero] at hl0;omega
    ·have hl0:=HL.out;simp only [List.length_nil,Int.natCast_zero] at hl0;omega
    ·omega
  ·have ha':zB w 0 (.slice (some ⟨g,0,none⟩) a.length cap) a:=ha
   clear ha
   go_enter Tryz.func72,Tryz.ntmps72
   go_wp2_with fail
   refine (zHI b _ 0 vb _ HB.out HF.out (by omega) (by omega)).mono ?_
   rintro e w1 ⟨v',rfl,hm,hb1⟩
   have hsz:=hb1.size
   have HA1:Hid (zB w1 0 (.slice (some ⟨g,0,none⟩) a.length cap) a):=HA.out.below hb1
   clear ha'
   rcases hm.2 with ⟨rfl,hn'⟩ | ⟨g2,cap2,zTV,rfl,_,_,_,_,_,_⟩
   ·have hb0:Mt.moved b (a.length:Int)=[]:=List.length_eq_zero_iff.1 hn'
    have HE:Hid (a++Mt.moved b (a.length:Int)=a):=by show _=_;rw [hb0,List.append_nil]
    clear hm hb0
    go_wp2_with (first | (at_builtin;refine wpList_append_own _ rfl (.tmp 15) (.tmp 16) 40 rfl w.heap.size 112 i0 _ 4 40 Tryz.underlying40 hi hz0 hz1 hz2 rfl (by decide) _ 0 [] rfl (World.ownsRow_nil _ _ _ _) ⟨g,0,none⟩ _ cap (a.flatMap zT) rfl (zBk _) (zEC HA1.out) (zBO _) ?_ ?_ ?_ ?_;rotate_right))
    ·intro v2 w2 hown2 hgrow _
     try simp only [Nat.zero_add,List.nil_append] at hown2
     have R2:Below w.heap.size w w2:=hb1.grown hgrow hsz (fun q hq'=>by simp [Value.ownBlock] at hq')
     have HO2:Hid (w2.ownsRow w.heap.size 112 4 v2 a.length (a.flatMap zT)):=hown2
     clear hown2 hgrow
     go_wp2_with (at_builtin;refine wpList_append_own_none rfl (.tmp 18) (.tmp 19) 40 rfl w.heap.size 112 i0 4 Tryz.underlying40 hi _ _ _ rfl HO2.out rfl ?_)
     go_ret
     exact ⟨_,rfl,by rw [HE.out];exact jY HO2.out (Nat.zero_le _),R2⟩
    ·unfold maxLen;omega
    ·omega
    ·omega
   ·have HM:Hid (zB w1 w.heap.size (.slice (some ⟨g2,0,none⟩) (Mt.moved b (a.length:Int)).length cap2) (Mt.moved b (a.length:Int))):=hm
    clear hm
    go_wp2_with (first | (at_builtin;refine wpList_append_own _ rfl (.tmp 15) (.tmp 16) 40 rfl w.heap.size 112 i0 _ 4 40 Tryz.underlying40 hi hz0 hz1 hz2 rfl (by decide) _ 0 [] rfl (World.ownsRow_nil _ _ _ _) ⟨g,0,none⟩ _ cap (a.flatMap zT) rfl (zBk _) (zEC HA1.out) (zBO _) ?_ ?_ ?_ ?_;rotate_right))
    ·intro v2 w2 hown2 hgrow _
     try simp only [Nat.zero_add,List.nil_append] at hown2
     have R2:Below w.heap.size w w2:=hb1.grown hgrow hsz (fun q hq'=>by simp [Value.ownBlock] at hq')
     have zNY:Below w1.heap.size w1 w2:=(Below.refl _ _).grown hgrow (Nat.le_refl _) (fun q hq'=>by simp [Value.ownBlock] at hq')
     have HM2:Hid (zB w2 w.heap.size (.slice (some ⟨g2,0,none⟩) (Mt.moved b (a.length:Int)).length cap2) (Mt.moved b (a.length:Int))):=HM.out.below zNY
     have hsz2:=R2.size
     have HO2:Hid (w2.ownsRow w.heap.size 112 4 v2 a.length (a.flatMap zT)):=hown2
     clear hown2 hgrow HM zNY
     go_wp2_with (at_builtin;refine wpList_append_own _ rfl (.tmp 18) (.tmp 19) 40 rfl w.heap.size 112 i0 _ 4 40 Tryz.underlying40 hi hz0 hz1 hz2 rfl (by decide) _ _ _ rfl HO2.out ⟨g2,0,none⟩ _ cap2 ((Mt.moved b (a.length:Int)).flatMap zT) rfl (zBk _) (zEC HM2.out) (zBO _) ?_ ?_ ?_ ?_;rotate_right)
     ·intro v3 w3 hown3 hgrow3 _
      have R3:Hid (zB w3 w.heap.size v3 (a++Mt.moved b (a.length:Int))):=zB.join hown3
      have R4:Below w.heap.size w w3:=R2.grown hgrow3 hsz2 (fun q hq'=>(World.ownsRow.lt HO2.out q hq').1)
      clear hown3 hgrow3
      go_wp2_with fail
      go_ret
      exact ⟨_,rfl,R3.out.base (Nat.zero_le _),R4⟩
     ·unfold maxLen;have hl0:=HL.out;omega
     ·have hl0:=HL.out;omega
     ·omega
    ·unfold maxLen;omega
    ·omega
    ·omega
theorem zAr (w:World) (b:Nat) (hb:b=w.heap.size) (i:Mt.Ins):zB (w.alloc (.cells #[.int .i64 i.op,.int .i64 i.x,.int .i64 i.y,.string ⟨i.set.toArray⟩] 112)) 0 (.slice (some ⟨b,0,none⟩) 1 1) [i]:=by
 subst hb
 refine ⟨rfl,.inr ⟨w.heap.size,1,_,rfl,Nat.zero_le _,heap_alloc_new w _,Nat.le_refl _,by unfold maxLen;omega,rfl,?_⟩⟩
 rfl
theorem zCi {w:World} {base:Nat} {v:Value} {c:List Mt.Ins} (h:zB w base v c):∃ ao cap,v=.slice ao c.length cap:=by
 rcases h.2 with ⟨rfl,hn⟩ | ⟨g,cap,cur,rfl,_⟩
 ·exact ⟨none,0,by rw [hn]⟩
 ·exact ⟨_,_,rfl⟩
theorem zEZ (x y:Int) (late:Bool) (w:World) :
  Calls Tryz.prog 102 #[.int .i64 x,.int .i64 y,.bool late] w fun e w'=>∃ v',e=.returned v'∧zB w' 0 v' (Mt.jL x y late)∧Below w.heap.size w w':=by
 cases late
 ·go_enter Tryz.func102,Tryz.ntmps102
  go_wp2_with fail
  go_ret
  exact ⟨_,rfl,zAr w _ rfl ⟨2,x,y,[]⟩,by go_grown⟩
 ·go_enter Tryz.func102,Tryz.ntmps102
  go_wp2_with fail
  go_ret
  exact ⟨_,rfl,zAr w _ rfl ⟨2,y,x,[]⟩,by go_grown⟩
theorem yK {M:Int} (o x y:Int) (s:List UInt8) (hx:-M≤x∧x≤M) (hy:-M≤y∧y≤M):Mt.zIV M ⟨o,x,y,s⟩:=⟨hx.1,hx.2,hy.1,hy.2⟩
theorem zA9 (sort:Int) (c:List Mt.Ins) (v:Value) (w:World) (h:zB w 0 v c) (hf:Mt.fit 800000000 c) (hs0:0≤sort) (hs1:sort≤10) :
  Calls Tryz.prog 149 #[.int .i64 sort,v] w fun e w'=>∃ v',e=.returned v'∧zB w' 0 v' (Mt.alone sort c)∧Below w.heap.size w w':=by
 have hl:=hf.1
 have H:Hid (zB w 0 v c):=h
 have F1:Hid (Mt.fit 900000000 c):=Mt.zJ hf (by omega)
 have F2:Hid (Mt.fit 900000000 [(⟨11,sort,(c.length:Int)+2,[]⟩:Mt.Ins)]):=Mt.zAU (yK _ _ _ _ (by omega) (by omega)) (by omega)
 have F3:Hid (Mt.fit 900000000 (Mt.behind [(⟨11,sort,(c.length:Int)+2,[]⟩:Mt.Ins)] c)) :=
  Mt.zJ (Mt.yJ (Mt.zJ (Mt.zAU (M:=800000010) (yK _ _ _ _ (by omega) (by omega)) (by omega)) (Int.le_refl _)) (Mt.zJ hf (by omega))) (by omega)
 have F4:Hid (Mt.fit 900000000 [(⟨12,0,0,[]⟩:Mt.Ins)]):=Mt.zAU (yK _ _ _ _ (by omega) (by omega)) (by omega)
 obtain ⟨ao,cap,rfl⟩:=zCi h
 clear h hf
 go_enter Tryz.func149,Tryz.ntmps149
 go_wp2_with fail
 refine (kD [⟨11,sort,(c.length:Int)+2,[]⟩] c _ _ _ (zAr w _ rfl _) (H.out.below (by go_grown)) F2.out F1.out).mono ?_
 rintro e w1 ⟨v1,rfl,h1,hb1⟩
 have H1:Hid (zB w1 0 v1 (Mt.behind [(⟨11,sort,(c.length:Int)+2,[]⟩:Mt.Ins)] c)):=h1
 have hB:Below w.heap.size w w1:=((Below.refl _ _).alloc (Nat.le_refl _) _).trans (hb1.mono (by simp))
 have hsz:=hB.size
 clear h1 hb1
 go_wp2_with fail
 refine (kD _ [⟨12,0,0,[]⟩] _ _ _ (H1.out.below (by go_grown)) (zAr w1 _ rfl _) F3.out F4.out).mono ?_
 rintro e w2 ⟨v2,rfl,h2,hb2⟩
 have hB2:Below w.heap.size w w2:=(hB.alloc hsz _).trans (hb2.mono (by simp;omega))
 clear hb2
 go_wp2_with fail
 go_ret
 exact ⟨_,rfl,h2,hB2⟩
theorem zE0 {M:Int} (x y:Int) (late:Bool) (hx:-M≤x∧x≤M) (hy:-M≤y∧y≤M) (h1:1≤M):Mt.fit M (Mt.jL x y late):=by
 unfold Mt.jL
 cases late
 ·exact Mt.zAU (yK _ _ _ _ hx hy) h1
 ·exact Mt.zAU (yK _ _ _ _ hy hx) h1
theorem zED (y:List Mt.Ins) (d:Int) (late:Bool) (v:Value) (w:World) (h:zB w 0 v y) (hf:Mt.fit 700000000 y) (hd0:0≤d) (hd1:d≤1000) :
  Calls Tryz.prog 148 #[v,.int .i64 d,.bool late] w fun e w'=>∃ v',e=.returned v'∧zB w' 0 v' (Mt.vG y d late)∧Below w.heap.size w w':=by
 have hl:=hf.1
 have H:Hid (zB w 0 v y):=h
 have g1:Mt.fit 700000010 (Mt.jL 1 ((y.length:Int)+3) late):=zE0 _ _ _ (by omega) (by omega) (by omega)
 have g2:Mt.fit 700000010 [(⟨4,d,0,[]⟩:Mt.Ins)]:=Mt.zAU (yK _ _ _ _ (by omega) (by omega)) (by omega)
 have g3:=Mt.yJ g1 g2
 have g4:=Mt.yJ g3 (Mt.zJ hf (show (700000000:Int)≤700000010+300 by omega))
 have F1:Hid (Mt.fit 900000000 y):=Mt.zJ hf (by omega)
 have F2:Hid (Mt.fit 900000000 (Mt.jL 1 ((y.length:Int)+3) late)):=Mt.zJ g1 (by omega)
 have F3:Hid (Mt.fit 900000000 [(⟨4,d,0,[]⟩:Mt.Ins)]):=Mt.zJ g2 (by omega)
 have F4:Hid (Mt.fit 900000000 (Mt.behind (Mt.jL 1 ((y.length:Int)+3) late) [⟨4,d,0,[]⟩])):=Mt.zJ g3 (by omega)
 have F5:Hid (Mt.fit 900000000 (Mt.behind (Mt.behind (Mt.jL 1 ((y.length:Int)+3) late) [⟨4,d,0,[]⟩]) y)):=Mt.zJ g4 (by omega)
 have F6:Hid (Mt.fit 900000000 [(⟨5,-(y.length:Int)-2,d,[]⟩:Mt.Ins)]):=Mt.zAU (yK _ _ _ _ (by omega) (by omega)) (by omega)
 clear g1 g2 g3 g4
 obtain ⟨ao,cap,rfl⟩:=zCi h
 clear h hf
 go_enter Tryz.func148,Tryz.ntmps148
 go_wp2_with fail
 refine (zEZ _ _ _ _).mono ?_
 rintro e w1 ⟨v1,rfl,h1,hb1⟩
 have H1:Hid (zB w1 0 v1 (Mt.jL 1 ((y.length:Int)+3) late)):=h1
 have Hy1:Hid (zB w1 0 (.slice ao y.length cap) y):=H.out.below hb1
 have hs1:=hb1.size
 clear h1 H
 go_wp2_with fail
 refine (kD _ [⟨4,d,0,[]⟩] _ _ _ (H1.out.below (by go_grown)) (zAr w1 _ rfl _) F2.out F3.out).mono ?_
 rintro e w2 ⟨v2,rfl,h2,hb2⟩
 have zNY:Below w1.heap.size w1 w2:=((Below.refl _ _).alloc (Nat.le_refl _) _).trans (hb2.mono (by simp))
 have hB2:Below w.heap.size w w2:=hb1.trans (zNY.mono hs1)
 have hs2:=hB2.size
 have H2:Hid (zB w2 0 v2 (Mt.behind (Mt.jL 1 ((y.length:Int)+3) late) [⟨4,d,0,[]⟩])):=h2
 have Hy2:Hid (zB w2 0 (.slice ao y.length cap) y):=Hy1.out.below zNY
 clear h2 hb2 zNY H1 Hy1 hb1
 go_wp2_with fail
 refine (kD _ y _ _ _ H2.out Hy2.out F4.out F1.out).mono ?_
 rintro e w3 ⟨v3,rfl,h3,hb3⟩
 have hB3:Below w.heap.size w w3:=hB2.trans (hb3.mono hs2)
 have hs3:=hB3.size
 have H3:Hid (zB w3 0 v3 (Mt.behind (Mt.behind (Mt.jL 1 ((y.length:Int)+3) late) [⟨4,d,0,[]⟩]) y)):=h3
 clear h3 hb3 hB2 H2 Hy2
 go_wp2_with fail
 refine (kD _ [⟨5,-(y.length:Int)-2,d,[]⟩] _ _ _ (H3.out.below (by go_grown)) (zAr w3 _ rfl _) F5.out F6.out).mono ?_
 rintro e w4 ⟨v4,rfl,h4,hb4⟩
 have hB4:Below w.heap.size w w4:=(hB3.alloc hs3 _).trans (hb4.mono (by simp;omega))
 clear hb4
 go_wp2_with fail
 go_ret
 exact ⟨_,rfl,h4,hB4⟩
theorem jJ {M:Int} {a b:List Mt.Ins} (ha:Mt.fit (M+300) a) (hb:Mt.fit M b):Mt.fit (M+300) (Mt.behind a b):=by
 unfold Mt.behind
 by_cases h:300<a.length
 ·rw [if_pos h];exact ha
 ·rw [if_neg h]
  refine ⟨?_,fun i hi=>?_⟩
  ·rw [List.length_append,Mt.jV];have:=hb.1;omega
  ·rcases List.mem_append.1 hi with hi | hi
   ·exact ha.2 i hi
   ·unfold Mt.moved at hi
    obtain ⟨j,hj,rfl⟩:=List.mem_map.1 hi
    exact Mt.zDK (hb.2 j hj) (by omega) (by omega)
theorem zL5 (x:List Mt.Ins) (late:Bool) (k i:Nat) (c:List Mt.Ins) (h:i<k):Mt.vH x late (k-i) c=Mt.vH x late (k-(i+1)) (Mt.behind c (Mt.behind (Mt.jL 1 (((k:Int)-i)*(x.length+1)) late) x)):=by
 rw [show k-i=(k-(i+1))+1 by omega]
 simp only [Mt.vH]
 rw [show ((k-(i+1):Nat):Int)+1=(k:Int)-i by omega]
theorem zL6 (k i:Nat) (L:Nat) (h:i<k) (hk:k≤20) (hL:(L:Int)≤10000000):0≤((k:Int)-i)*((L:Int)+1)∧((k:Int)-i)*((L:Int)+1)≤300000000:=by
 have h1:(0:Int)≤(k:Int)-i:=by omega
 have h2:(k:Int)-i≤20:=by omega
 refine ⟨Int.mul_nonneg h1 (by omega),?_⟩
 have:=Int.mul_le_mul h2 (show (L:Int)+1≤10000001 by omega) (by omega) (by omega)
 omega
theorem zOa (x:List Mt.Ins) (k:Nat) (late:Bool) (v:Value) (w:World) (h:zB w 0 v x) (hf:Mt.fit 70000000 x) (hl:(x.length:Int)≤10000000) (hk:k≤20) :
  Calls Tryz.prog 147 #[v,.int .i64 k,.bool late] w fun e w'=>∃ v',e=.returned v'∧zB w' 0 v' (Mt.upTo x k late)∧Below w.heap.size w w':=by
 have F1:Hid (Mt.fit 70000000 x):=hf
 have H:Hid (zB w 0 v x):=h
 obtain ⟨ao,cap,rfl⟩:=zCi h
 clear h hf
 go_enter Tryz.func147,Tryz.ntmps147
 go_wp2_with fail
 go_loopw [7,8] (fun u i wr=>∃ (j:Nat) (c:List Mt.Ins),j≤k∧i=.int .i64 j∧zB wr 0 u c∧Mt.fit 400000600 c∧Below w.heap.size w wr∧Mt.upTo x k late=Mt.vH x late (k-j) c) (fun _ i _=>k-(intOf i).toNat)
 case atStart=>exact ⟨0,[],Nat.zero_le _,rfl,zB.nil _ _,Mt.xZ (by omega),Below.refl _ _,rfl⟩
 case round =>
  obtain ⟨j,c,hj,rfl,hown,hfc,hbel,hr⟩:=hrel
  have HR:Hid (Mt.upTo x k late=Mt.vH x late (k-j) c):=hr
  have HO:Hid (zB wr 0 u7 c):=hown
  have FC:Hid (Mt.fit 400000600 c):=hfc
  have hs0:=hbel.size
  clear hr hown hfc
  by_cases hlt:j<k
  ·have HN:Hid (Mt.upTo x k late=Mt.vH x late (k-(j+1)) (Mt.behind c (Mt.behind (Mt.jL 1 (((k:Int)-j)*(x.length+1)) late) x))):=HR.out.trans (zL5 x late k j c hlt)
   have hm:=zL6 k j x.length hlt hk hl
   have hm1:=hm.1
   have hm2:=hm.2
   have Hx:Hid (zB wr 0 (.slice ao x.length cap) x):=H.out.below hbel
   have g1:Mt.fit 300000000 (Mt.jL 1 (((k:Int)-j)*(x.length+1)) late):=zE0 _ _ _ (by omega) (by omega) (by omega)
   have g2:=Mt.yJ g1 (Mt.zJ F1.out (show (70000000:Int)≤300000000 by omega))
   have G1:Hid (Mt.fit 900000000 (Mt.jL 1 (((k:Int)-j)*(x.length+1)) late)):=Mt.zJ g1 (by omega)
   have G2:Hid (Mt.fit 900000000 (Mt.behind (Mt.jL 1 (((k:Int)-j)*(x.length+1)) late) x)):=Mt.zJ g2 (by omega)
   have G3:Hid (Mt.fit 400000600 (Mt.behind c (Mt.behind (Mt.jL 1 (((k:Int)-j)*(x.length+1)) late) x))):=jJ (M:=400000300) FC.out (Mt.zJ g2 (by omega))
   have G4:Hid (Mt.fit 900000000 c):=Mt.zJ FC.out (by omega)
   have G5:Hid (Mt.fit 900000000 x):=Mt.zJ F1.out (by omega)
   clear g1 g2 hm HR FC
   go_wp2_with fail
   refine (zEZ _ _ _ _).mono ?_
   rintro e w1 ⟨v1,rfl,h1,hb1⟩
   have hB1:Below w.heap.size w w1:=hbel.trans (hb1.mono hs0)
   have hs1:=hB1.size
   have H1:Hid (zB w1 0 v1 (Mt.jL 1 (((k:Int)-j)*(x.length+1)) late)):=h1
   have Hx1:Hid (zB w1 0 (.slice ao x.length cap) x):=Hx.out.below hb1
   have HO1:Hid (zB w1 0 u7 c):=HO.out.below hb1
   clear h1 hb1 Hx HO hbel
   go_wp2_with fail
   refine (kD _ x _ _ _ H1.out Hx1.out G1.out G5.out).mono ?_
   rintro e w2 ⟨v2,rfl,h2,hb2⟩
   have hB2:Below w.heap.size w w2:=hB1.trans (hb2.mono hs1)
   have hs2:=hB2.size
   have H2:Hid (zB w2 0 v2 (Mt.behind (Mt.jL 1 (((k:Int)-j)*(x.length+1)) late) x)):=h2
   have HO2:Hid (zB w2 0 u7 c):=HO1.out.below hb2
   clear h2 hb2 Hx1 HO1 hB1 H1
   go_wp2_with fail
   refine (kD c _ _ _ _ HO2.out H2.out G4.out G2.out).mono ?_
   rintro e w3 ⟨v3,rfl,h3,hb3⟩
   have hB3:Below w.heap.size w w3:=hB2.trans (hb3.mono hs2)
   have H3:Hid (zB w3 0 v3 (Mt.behind c (Mt.behind (Mt.jL 1 (((k:Int)-j)*(x.length+1)) late) x))):=h3
   clear h3 hb3 hB2 H2 HO2
   go_wp2_with fail
   go_roundw
   case rel=>exact ⟨j+1,_,by omega,by go_num,H3.out,G3.out,hB3,HN.out⟩
   case measure=>simp [intOf];omega
  ·have hj2:j=k:=by omega
   have HO2:Hid (zB wr 0 u7 (Mt.upTo x k late)):=by
    show zB _ _ _ _
    rw [HR.out,hj2,Nat.sub_self];exact HO.out
   clear HO HR
   go_wp2_with fail
   go_ret
   exact ⟨_,rfl,HO2.out,hbel⟩
theorem zE1 (t:Mt.Tok):((t.kind==6)=false∧Mt.kR t=false)∨((t.kind==6)=true∧(t.how==4)=false∧Mt.kR t=false)∨((t.kind==6)=true∧(t.how==4)=true∧Mt.kR t=true):=by
 unfold Mt.kR
 simp only [beq_iff_eq,beq_eq_false_iff_ne,decide_eq_true_eq,decide_eq_false_iff_not]
 omega
theorem zEf (l:List Mt.Tok) (v:Value) (w:World) (h:toks w v l) (hl:l.length≤64) :
  Calls Tryz.prog 50 #[v] w fun e w'=>e=.returned (.int .i64 (Mt.captures l))∧w=w':=by
 rcases vR h with ⟨rfl,ao,cap,rfl⟩ | ⟨hp,g,cap,rfl,hcap,hg,hc⟩
 ·clear h
  go_enter Tryz.func50,Tryz.ntmps50
  go_wp2_with fail
  refine wp_loop_rounds 1 ?_
  rw [rounds_succ]
  go_wp2
  go_ret
  exact ⟨rfl,rfl⟩
 ·clear h
  have HC:Hid (∀ k j,k<l.length→j<7→w.cell? ⟨g,k*7+j,none⟩=(yG (l.getD k Mt.kX))[j]?):=hc
  clear hc
  go_enter Tryz.func50,Tryz.ntmps50
  go_wp2_with fail
  go_loop [3,4] (fun n i=>∃ k:Nat,k≤l.length∧i=.int .i64 k∧n=.int .i64 (Mt.captures (l.take k))) (fun _ i=>l.length-(intOf i).toNat)
  case atStart=>exact ⟨0,Nat.zero_le _,rfl,rfl⟩
  case round =>
   obtain ⟨k,hk,rfl,rfl⟩:=hrel
   have ⟨b1,b2⟩:=Mt.zEs l k
   by_cases hlt:k<l.length
   ·have hc0:w.cell? ⟨g,k*7,none⟩=some (.int .i64 (l.getD k Mt.kX).kind):=HC.out k 0 hlt (by omega)
    have hc5:w.cell? ⟨g,k*7+5,none⟩=some (.int .i64 (l.getD k Mt.kX).how):=HC.out k 5 hlt (by omega)
    have hn:Hid (Mt.captures (l.take (k+1))=Mt.captures (l.take k)+if Mt.kR (l.getD k Mt.kX) then 1 else 0):=Mt.zA4 l k hlt
    generalize hT:l.getD k Mt.kX=T at *
    clear hT
    rcases zE1 T with ⟨e1,e3⟩ | ⟨e1,e2,e3⟩ | ⟨e1,e2,e3⟩
    all_goals
     have hn':Hid (Mt.captures (l.take (k+1))=Mt.captures (l.take k)+if Mt.kR T then 1 else 0):=hn
     have e3':Hid (Mt.kR T=_):=e3
     clear e3 hn
     go_wp2
     go_round
     case rel=>exact ⟨k+1,by omega,by go_num,by first | (rw [hn'.out,e3'.out];simp;done) | (rw [hn'.out,e3'.out];go_num)⟩
     case measure=>simp [intOf];omega
   ·have:k=l.length:=by omega
    subst this
    go_wp2
    go_ret
    exact ⟨zBt (by first | rfl | rw [List.take_length]),rfl⟩
theorem zC7 (l:List Mt.Tok) (i:Nat) (v:Value) (w:World) (h:toks w v l) (hl:l.length≤64) (hi:i≤l.length) :
  Calls Tryz.prog 85 #[v,.int .i64 i] w fun e w'=>e=.returned (.int .i64 (Mt.closing l i))∧w=w':=by
 rcases vR h with ⟨rfl,ao,cap,rfl⟩ | ⟨hp,g,cap,rfl,hcap,hg,hc⟩
 ·clear h
  have:i=0:=by simpa using hi
  subst this
  go_enter Tryz.func85,Tryz.ntmps85
  go_wp2_with fail
  refine wp_loop_rounds 1 ?_
  rw [rounds_succ]
  go_wp2
  go_ret
  exact ⟨rfl,rfl⟩
 ·clear h
  have HC:Hid (∀ k j,k<l.length→j<7→w.cell? ⟨g,k*7+j,none⟩=(yG (l.getD k Mt.kX))[j]?):=hc
  clear hc
  go_enter Tryz.func85,Tryz.ntmps85
  go_wp2_with fail
  go_loop [5,6] (fun n j=>∃ (k:Nat) (x:Int),i≤k∧k≤l.length∧-(k:Int)≤x∧x≤k∧j=.int .i64 k∧n=.int .i64 x∧Mt.closing l i=Mt.kE (l.drop k) x k) (fun _ j=>l.length-(intOf j).toNat)
  case atStart=>exact ⟨i,0,Nat.le_refl _,hi,by omega,by omega,rfl,rfl,rfl⟩
  case round =>
   obtain ⟨k,x,hik,hk,b1,b2,rfl,rfl,hr⟩:=hrel
   have H:Hid (Mt.closing l i=Mt.kE (l.drop k) x k):=hr
   clear hr
   by_cases hlt:k<l.length
   ·have hc0:w.cell? ⟨g,k*7,none⟩=some (.int .i64 (l.getD k Mt.kX).kind):=HC.out k 0 hlt (by omega)
    have hn:Hid (Mt.closing l i=if x+Mt.delta (l.getD k Mt.kX)=0 then k else Mt.kE (l.drop (k+1)) (x+Mt.delta (l.getD k Mt.kX)) (k+1)):=H.out.trans (Mt.zFS l x k hlt)
    generalize hT:l.getD k Mt.kX=T at *
    clear hT H
    rcases zEY T with ⟨e1,e2,e3⟩ | ⟨e1,e2,e3⟩ | ⟨e1,e2,e3⟩
    ·cases hz:(x+1==0)
     ·have R:Hid (Mt.closing l i=Mt.kE (l.drop (k+1)) (x+1) (k+1)):=by show _=_;rw [hn.out,e3,if_neg (by simpa using hz)]
      clear e3 hn
      go_wp2
      go_round
      case rel=>exact ⟨k+1,x+1,by omega,by omega,by omega,by omega,by go_num,rfl,R.out⟩
      case measure=>simp [intOf];omega
     ·have R:Hid (Mt.closing l i=k):=by show _=_;rw [hn.out,e3,if_pos (by simpa using hz)]
      clear e3 hn
      go_wp2
      go_ret
      exact ⟨zBt (by rw [R.out]),rfl⟩
    ·cases hz:(x-1==0)
     ·have R:Hid (Mt.closing l i=Mt.kE (l.drop (k+1)) (x-1) (k+1)):=by show _=_;rw [hn.out,e3,if_neg (by simp at hz;omega)];rfl
      clear e3 hn
      go_wp2
      go_round
      case rel=>exact ⟨k+1,x-1,by omega,by omega,by omega,by omega,by go_num,rfl,R.out⟩
      case measure=>simp [intOf];omega
     ·have R:Hid (Mt.closing l i=k):=by show _=_;rw [hn.out,e3,if_pos (by simp at hz;omega)]
      clear e3 hn
      go_wp2
      go_ret
      exact ⟨zBt (by rw [R.out]),rfl⟩
    ·cases hz:(x==0)
     ·have R:Hid (Mt.closing l i=Mt.kE (l.drop (k+1)) x (k+1)):=by show _=_;rw [hn.out,e3,if_neg (by simp at hz;omega),Int.add_zero]
      clear e3 hn
      go_wp2
      go_round
      case rel=>exact ⟨k+1,x,by omega,by omega,by omega,by omega,by go_num,rfl,R.out⟩
      case measure=>simp [intOf];omega
     ·have R:Hid (Mt.closing l i=k):=by show _=_;rw [hn.out,e3,if_pos (by simp at hz;omega)]
      clear e3 hn
      go_wp2
      go_ret
      exact ⟨zBt (by rw [R.out]),rfl⟩
   ·have hk2:k=l.length:=by omega
    have R:Hid (Mt.closing l i=l.length):=by show _=_;rw [H.out,hk2,List.drop_length];rfl
    clear H hk2
    go_wp2
    go_ret
    exact ⟨zBt (by rw [R.out]),rfl⟩
theorem zKK (l:List Mt.Tok) (c:Int) (v:Value) (w:World) (h:toks w v l) (hl:l.length≤64) :
  Calls Tryz.prog 83 #[v,.int .i64 c] w fun e w'=>e=.returned (.bool (Mt.closed l c))∧w=w':=by
 have hk:=h
 rcases vR h with ⟨rfl,ao,cap,rfl⟩ | ⟨hp,g,cap,rfl,hcap,hg,hc⟩
 ·clear h hk
  go_enter Tryz.func83,Tryz.ntmps83
  go_wp2_with fail
  refine wp_loop_rounds 1 ?_
  rw [rounds_succ]
  go_wp2
  go_ret
  exact ⟨rfl,rfl⟩
 ·clear h
  have HK:Hid (toks w (.slice (some ⟨g,0,none⟩) l.length cap) l):=hk
  clear hk
  have HC:Hid (∀ k j,k<l.length→j<7→w.cell? ⟨g,k*7+j,none⟩=(yG (l.getD k Mt.kX))[j]?):=hc
  clear hc
  go_enter Tryz.func83,Tryz.ntmps83
  go_wp2_with fail
  go_loop [5] (fun j=>∃ k:Nat,k≤l.length∧j=.int .i64 k∧Mt.closed l c=Mt.qO l c (l.drop k) k) (fun j=>l.length-(intOf j).toNat)
  case atStart=>exact ⟨0,Nat.zero_le _,rfl,rfl⟩
  case round =>
   obtain ⟨k,hk,rfl,hr⟩:=hrel
   have H:Hid (Mt.closed l c=Mt.qO l c (l.drop k) k):=hr
   clear hr
   by_cases hlt:k<l.length
   ·have hc0:w.cell? ⟨g,k*7,none⟩=some (.int .i64 (l.getD k Mt.kX).kind):=HC.out k 0 hlt (by omega)
    have hc5:w.cell? ⟨g,k*7+5,none⟩=some (.int .i64 (l.getD k Mt.kX).how):=HC.out k 5 hlt (by omega)
    have hc3:w.cell? ⟨g,k*7+3,none⟩=some (.int .i64 (l.getD k Mt.kX).n):=HC.out k 3 hlt (by omega)
    have hn:Hid (Mt.closed l c=if Mt.kR (l.getD k Mt.kX)=true∧(l.getD k Mt.kX).n=c then decide (Mt.closing l k<l.length) else Mt.qO l c (l.drop (k+1)) (k+1)):=H.out.trans (Mt.zCg l c k hlt)
    generalize hT:l.getD k Mt.kX=T at *
    clear hT H
    rcases zE1 T with ⟨e1,e3⟩ | ⟨e1,e2,e3⟩ | ⟨e1,e2,e3⟩
    ·have R:Hid (Mt.closed l c=Mt.qO l c (l.drop (k+1)) (k+1)):=by show _=_;rw [hn.out,e3];simp
     clear e3 hn
     go_wp2_with fail
     go_round
     case rel=>exact ⟨k+1,by omega,by go_num,R.out⟩
     case measure=>simp [intOf];omega
    ·have R:Hid (Mt.closed l c=Mt.qO l c (l.drop (k+1)) (k+1)):=by show _=_;rw [hn.out,e3];simp
     clear e3 hn
     go_wp2_with fail
     go_round
     case rel=>exact ⟨k+1,by omega,by go_num,R.out⟩
     case measure=>simp [intOf];omega
    ·cases hz:(T.n==c)
     ·have R:Hid (Mt.closed l c=Mt.qO l c (l.drop (k+1)) (k+1)):=by show _=_;rw [hn.out,e3,if_neg (by simp at hz;simp [hz])]
      clear e3 hn
      go_wp2_with fail
      go_round
      case rel=>exact ⟨k+1,by omega,by go_num,R.out⟩
      case measure=>simp [intOf];omega
     ·have R:Hid (Mt.closed l c=decide (Mt.closing l k<l.length)):=by show _=_;rw [hn.out,e3,if_pos (by simp at hz;simp [hz])]
      clear e3 hn
      go_wp2_with (first | (go_at_call 85;refine (zC7 l _ _ _ HK.out hl (by omega)).mono ?_;rintro e w' ⟨rfl,rfl⟩))
      go_ret
      exact ⟨kP (by rw [R.out]),rfl⟩
   ·have hk2:k=l.length:=by omega
    have R:Hid (Mt.closed l c=false):=by show _=_;rw [H.out,hk2,List.drop_length];rfl
    clear H hk2
    go_wp2_with fail
    go_ret
    exact ⟨kP (by rw [R.out]),rfl⟩
theorem last_at (l:List Mt.Tok) (h:0<l.length):l.getLast?=some (l.getD (l.length-1) Mt.kX):=by
 rw [List.getLast?_eq_getElem?,List.getD_eq_getElem?_getD,List.getElem?_eq_getElem (by omega)];rfl
theorem zKL (k:Int):((k==1)=true∧decide (k=1∨k=2∨k=3∨k=4∨k=7)=true)∨((k==1)=false∧(k==2)=true∧decide (k=1∨k=2∨k=3∨k=4∨k=7)=true) ∨
  ((k==1)=false∧(k==2)=false∧(k==3)=true∧decide (k=1∨k=2∨k=3∨k=4∨k=7)=true) ∨
  ((k==1)=false∧(k==2)=false∧(k==3)=false∧(k==4)=true∧decide (k=1∨k=2∨k=3∨k=4∨k=7)=true) ∨
  ((k==1)=false∧(k==2)=false∧(k==3)=false∧(k==4)=false∧(k==7)=true∧decide (k=1∨k=2∨k=3∨k=4∨k=7)=true) ∨
  ((k==1)=false∧(k==2)=false∧(k==3)=false∧(k==4)=false∧(k==7)=false∧decide (k=1∨k=2∨k=3∨k=4∨k=7)=false):=by
 simp only [beq_iff_eq,beq_eq_false_iff_ne,decide_eq_true_eq,decide_eq_false_iff_not]
 omega
theorem zHK (l:List Mt.Tok) (v:Value) (w:World) (h:toks w v l) (hl:l.length≤64) :
  Calls Tryz.prog 84 #[v] w fun e w'=>e=.returned (.bool (Mt.yO l))∧w=w':=by
 rcases vR h with ⟨rfl,ao,cap,rfl⟩ | ⟨hp,g,cap,rfl,hcap,hg,hc⟩
 ·clear h
  go_enter Tryz.func84,Tryz.ntmps84
  go_wp2
  go_ret
  exact ⟨rfl,rfl⟩
 ·clear h
  have hc0:w.cell? ⟨g,(l.length-1)*7,none⟩=some (.int .i64 (l.getD (l.length-1) Mt.kX).kind):=hc (l.length-1) 0 (by omega) (by omega)
  clear hc
  have e:Mt.yO l=decide ((l.getD (l.length-1) Mt.kX).kind=1∨(l.getD (l.length-1) Mt.kX).kind=2∨(l.getD (l.length-1) Mt.kX).kind=3∨(l.getD (l.length-1) Mt.kX).kind=4∨(l.getD (l.length-1) Mt.kX).kind=7):=by
   unfold Mt.yO;rw [last_at l hp]
  rw [e];clear e
  generalize hT:l.getD (l.length-1) Mt.kX=T at *
  clear hT
  rcases zKL T.kind with ⟨e1,e⟩ | ⟨e1,e2,e⟩ | ⟨e1,e2,e3,e⟩ | ⟨e1,e2,e3,e4,e⟩ | ⟨e1,e2,e3,e4,e5,e⟩ | ⟨e1,e2,e3,e4,e5,e⟩
  all_goals
   rw [e];clear e
   go_enter Tryz.func84,Tryz.ntmps84
   go_wp2
   go_ret
   exact ⟨rfl,rfl⟩
end Go.Proofs.YtebpgfodelggoaaGreat
