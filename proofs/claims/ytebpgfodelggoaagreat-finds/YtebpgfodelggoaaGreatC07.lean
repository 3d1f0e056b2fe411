import Derived.Test.YtebpgfodelggoaaGreatC02
import Derived.Test.YtebpgfodelggoaaGreatC00
import Derived.Test.YtebpgfodelggoaaGreatC06
import Derived.Test.YtebpgfodelggoaaGreatC04
set_option linter.unusedVariables false
set_option linter.unusedSimpArgs false
set_option maxRecDepth 100000
set_option maxHeartbeats 4000000
namespace Go.Proofs.YtebpgfodelggoaaGreat
open Go.RowKit
theorem zKR (p:ByteArray) (k:Nat) (w:World) (hk:k<p.size) (hp:p.size≤64) (h1:(((p[k]'hk).toNat:Int)==124)=false) (h2:(((p[k]'hk).toNat:Int)==41)=false) (h3:(((p[k]'hk).toNat:Int)==94)=false) (h4:(((p[k]'hk).toNat:Int)==36)=false) (h5:(((p[k]'hk).toNat:Int)==92)=false) (h6:(((p[k]'hk).toNat:Int)==91)=false) (h7:(((p[k]'hk).toNat:Int)==40)=false) (h8:(((p[k]'hk).toNat:Int)==42)=false) (h9:(((p[k]'hk).toNat:Int)==43)=false) (h10:(((p[k]'hk).toNat:Int)==63)=true) (b:Bool) (hb:(Mt.kI p k).2=b) :
  Calls Tryz.prog 48 #[.string p,.int .i64 k] w fun e w'=>e=.returned (.tuple #[zAP (Mt.kI p k).1,.int .i64 (if b then 0 else 4)])∧Below w.heap.size w w':=by
 generalize hT:Mt.kI p k=T at *
 have HT:Hid (Mt.kI p k=T):=hT
 clear hT
 cases b
 all_goals
  go_enter Tryz.func48,Tryz.ntmps48
  go_wp2_with fail
  refine (zCC _ _ _ hp (by omega) (by omega)).mono ?_
  rw [HT.out]
  rintro e w1 ⟨rfl,hb1⟩
  simp only [hb]
  obtain ⟨q0,q1,q2,q3,q4,q5⟩:=zBu hb1
  clear hb1
  go_wp2_with (refine qR rfl (.tmp 6) (.tmp 68) (by rfl) (w.heap.size+1) T.1 (by rfl) (by rfl) q2 q3 (by rfl) ?_;intro w2 r1 r2 r3 r4 r5 r6;have s0:=fun o=>(r3 w.heap.size o (by omega)).trans (q0 o);have s1:=fun o=>(r4 w.heap.size o).trans (q1 o);have s2:Below w.heap.size w w2:=q5.trans (r6 _ (by omega));clear r3 r4 r6 q0 q1 q2 q3 q5)
  refine bodyPost_ret (v:=.tuple #[zAP T.1,_]) (by simp [results,Tryz.results48,go_sem,s0,s1,r1,r2,zAP]) rfl ⟨rfl,?_⟩
  go_grown
theorem zI4 (p:ByteArray) (k:Nat) (w:World) (hk:k<p.size) (hp:p.size≤64) (h1:(((p[k]'hk).toNat:Int)==124)=false) (h2:(((p[k]'hk).toNat:Int)==41)=false) (h3:(((p[k]'hk).toNat:Int)==94)=false) (h4:(((p[k]'hk).toNat:Int)==36)=false) (h5:(((p[k]'hk).toNat:Int)==92)=false) (h6:(((p[k]'hk).toNat:Int)==91)=false) (h7:(((p[k]'hk).toNat:Int)==40)=false) (h8:(((p[k]'hk).toNat:Int)==42)=false) (h9:(((p[k]'hk).toNat:Int)==43)=false) (h10:(((p[k]'hk).toNat:Int)==63)=false) (h11:(((p[k]'hk).toNat:Int)==123)=true) (b:Bool) (hb:(Mt.kI p k).2=b) :
  Calls Tryz.prog 48 #[.string p,.int .i64 k] w fun e w'=>e=.returned (.tuple #[zAP (Mt.kI p k).1,.int .i64 (if b then 0 else 4)])∧Below w.heap.size w w':=by
 generalize hT:Mt.kI p k=T at *
 have HT:Hid (Mt.kI p k=T):=hT
 clear hT
 cases b
 all_goals
  go_enter Tryz.func48,Tryz.ntmps48
  go_wp2_with fail
  refine (zCC _ _ _ hp (by omega) (by omega)).mono ?_
  rw [HT.out]
  rintro e w1 ⟨rfl,hb1⟩
  simp only [hb]
  obtain ⟨q0,q1,q2,q3,q4,q5⟩:=zBu hb1
  clear hb1
  go_wp2_with (refine qR rfl (.tmp 6) (.tmp 68) (by rfl) (w.heap.size+1) T.1 (by rfl) (by rfl) q2 q3 (by rfl) ?_;intro w2 r1 r2 r3 r4 r5 r6;have s0:=fun o=>(r3 w.heap.size o (by omega)).trans (q0 o);have s1:=fun o=>(r4 w.heap.size o).trans (q1 o);have s2:Below w.heap.size w w2:=q5.trans (r6 _ (by omega));clear r3 r4 r6 q0 q1 q2 q3 q5)
  refine bodyPost_ret (v:=.tuple #[zAP T.1,_]) (by simp [results,Tryz.results48,go_sem,s0,s1,r1,r2,zAP]) rfl ⟨rfl,?_⟩
  go_grown
theorem zOf (p:ByteArray) (k:Nat) (w:World) (hk:k<p.size) (hp:p.size≤64) (h1:(((p[k]'hk).toNat:Int)==124)=false) (h2:(((p[k]'hk).toNat:Int)==41)=false) (h3:(((p[k]'hk).toNat:Int)==94)=false) (h4:(((p[k]'hk).toNat:Int)==36)=false) (h5:(((p[k]'hk).toNat:Int)==92)=false) (h6:(((p[k]'hk).toNat:Int)==91)=false) (h7:(((p[k]'hk).toNat:Int)==40)=false) (h8:(((p[k]'hk).toNat:Int)==42)=false) (h9:(((p[k]'hk).toNat:Int)==43)=false) (h10:(((p[k]'hk).toNat:Int)==63)=false) (h11:(((p[k]'hk).toNat:Int)==123)=false) (h12:(((p[k]'hk).toNat:Int)==46)=true) :
  Calls Tryz.prog 48 #[.string p,.int .i64 k] w fun e w'=>e=.returned (.tuple #[zAP ⟨1,k,k+1,0,0,0,Mt.all p k k true⟩,.int .i64 0])∧Below w.heap.size w w':=by
 go_enter Tryz.func48,Tryz.ntmps48
 go_wp2_with (first | (go_at_call 82;refine (zEV _ _ _ _ _ hp (by omega) (by omega) (by omega)).mono ?_;rintro e w1 ⟨rfl,hb1⟩;obtain ⟨q0,q1,q2,q3,q4,q5⟩:=zBu hb1;clear hb1))
 refine bodyPost_ret (v:=.tuple #[zAP ⟨1,k,k+1,0,0,0,Mt.all p k k true⟩,.int .i64 0]) (by simp [results,Tryz.results48,go_sem,q0,q1,q2,q3,zAP]) rfl ⟨rfl,?_⟩
 go_grown
theorem zI5 (p:ByteArray) (k:Nat) (hk:k<p.size):p.extract k (k+1)=⟨([UInt8.ofNat (Mt.atB p k).toNat]:List UInt8).toArray⟩:=by
 have e:=byte_at p k hk
 have e2:(Mt.atB p k).toNat=(p[k]'hk).toNat:=by rw [← e];simp
 rw [e2]
 have e3:UInt8.ofNat (p[k]'hk).toNat=p[k]'hk:=by simp
 rw [e3]
 apply ByteArray.ext
 rw [ByteArray.data_extract]
 apply Array.ext'
 have hk':k<p.data.size:=hk
 rw [Array.toList_extract]
 simp [List.extract_eq_take_drop,List.take_one,hk']
 rw [Array.getElem?_eq_getElem hk']
 rfl
theorem zMh (p:ByteArray) (k:Nat) (w:World) (hk:k<p.size) (hp:p.size≤64) (h1:(((p[k]'hk).toNat:Int)==124)=false) (h2:(((p[k]'hk).toNat:Int)==41)=false) (h3:(((p[k]'hk).toNat:Int)==94)=false) (h4:(((p[k]'hk).toNat:Int)==36)=false) (h5:(((p[k]'hk).toNat:Int)==92)=false) (h6:(((p[k]'hk).toNat:Int)==91)=false) (h7:(((p[k]'hk).toNat:Int)==40)=false) (h8:(((p[k]'hk).toNat:Int)==42)=false) (h9:(((p[k]'hk).toNat:Int)==43)=false) (h10:(((p[k]'hk).toNat:Int)==63)=false) (h11:(((p[k]'hk).toNat:Int)==123)=false) (h12:(((p[k]'hk).toNat:Int)==46)=false) :
  Calls Tryz.prog 48 #[.string p,.int .i64 k] w fun e w'=>e=.returned (.tuple #[zAP ⟨1,k,k+1,0,0,0,[UInt8.ofNat (Mt.atB p k).toNat]⟩,.int .i64 0])∧Below w.heap.size w w':=by
 have hx:=zI5 p k hk
 go_enter Tryz.func48,Tryz.ntmps48
 go_wp2_with fail
 go_returns
 exact ⟨rfl,by go_grown⟩
theorem zOg (p:ByteArray) (k:Nat) (w:World) (hk:k<p.size) (hp:p.size≤64) (h1:(((p[k]'hk).toNat:Int)==124)=false) (h2:(((p[k]'hk).toNat:Int)==41)=false) (h3:(((p[k]'hk).toNat:Int)==94)=false) (h4:(((p[k]'hk).toNat:Int)==36)=false) (h5:(((p[k]'hk).toNat:Int)==92)=true)
  (b:Bool) (hb:(Mt.escape p k).2=b) :
  Calls Tryz.prog 48 #[.string p,.int .i64 k] w fun e w'=>e=.returned (.tuple #[zAP (Mt.escape p k).1,.int .i64 (if b then 0 else 2)])∧Below w.heap.size w w':=by
 generalize hT:Mt.escape p k=T at *
 have HT:Hid (Mt.escape p k=T):=hT
 clear hT
 cases b
 all_goals
  go_enter Tryz.func48,Tryz.ntmps48
  go_wp2_with fail
  refine (zKN _ _ _ hp (by omega) (by omega)).mono ?_
  rw [HT.out]
  rintro e w1 ⟨rfl,hb1⟩
  simp only [hb]
  obtain ⟨q0,q1,q2,q3,q4,q5⟩:=zBu hb1
  clear hb1
  go_wp2_with (refine qR rfl (.tmp 6) (.tmp 41) (by rfl) (w.heap.size+1) T.1 (by rfl) (by rfl) q2 q3 (by rfl) ?_;intro w2 r1 r2 r3 r4 r5 r6;have s0:=fun o=>(r3 w.heap.size o (by omega)).trans (q0 o);have s1:=fun o=>(r4 w.heap.size o).trans (q1 o);have s2:Below w.heap.size w w2:=q5.trans (r6 _ (by omega));clear r3 r4 r6 q0 q1 q2 q3 q5)
  refine bodyPost_ret (v:=.tuple #[zAP T.1,_]) (by simp [results,Tryz.results48,go_sem,s0,s1,r1,r2,zAP]) rfl ⟨rfl,?_⟩
  go_grown
theorem zJ2 (p:ByteArray) (i:Int) (w:World) (hp:p.size≤64) (hi0:0≤i) (hi1:i<(p.size:Int)) :
  Calls Tryz.prog 48 #[.string p,.int .i64 i] w fun e w'=>e=.returned (.tuple #[zAP (Mt.kK p i).1,.int .i64 (Mt.kK p i).2])∧Below w.heap.size w w':=by
 obtain ⟨k,rfl⟩:=Int.eq_ofNat_of_zero_le hi0
 have hk:k<p.size:=by omega
 have eb:=byte_at p k hk
 have yes:∀ q:Int,Mt.atB p k=q→(((p[k]'hk).toNat:Int)==q)=true:=fun q h=>by rw [eb];simpa using h
 have no:∀ q:Int,¬ Mt.atB p k=q→(((p[k]'hk).toNat:Int)==q)=false:=fun q h=>by rw [eb];simpa using h
 unfold Mt.kK
 by_cases h1:Mt.atB p k=124
 ·rw [if_pos h1];exact zEG p k w hk hp (yes _ h1)
 rw [if_neg h1]
 by_cases h2:Mt.atB p k=41
 ·rw [if_pos h2];exact zCD p k w hk hp (no _ h1) (yes _ h2)
 rw [if_neg h2]
 by_cases h3:Mt.atB p k=94
 ·rw [if_pos h3];exact zMf p k w hk hp (no _ h1) (no _ h2) (yes _ h3)
 rw [if_neg h3]
 by_cases h4:Mt.atB p k=36
 ·rw [if_pos h4];exact zMg p k w hk hp (no _ h1) (no _ h2) (no _ h3) (yes _ h4)
 rw [if_neg h4]
 by_cases h5:Mt.atB p k=92
 ·rw [if_pos h5];exact zOg p k w hk hp (no _ h1) (no _ h2) (no _ h3) (no _ h4) (yes _ h5) _ rfl
 rw [if_neg h5]
 by_cases h6:Mt.atB p k=91
 ·rw [if_pos h6];exact zKO p k w hk hp (no _ h1) (no _ h2) (no _ h3) (no _ h4) (no _ h5) (yes _ h6) _ rfl
 rw [if_neg h6]
 by_cases h7:Mt.atB p k=40
 ·rw [if_pos h7];exact zDn p k w hk hp (no _ h1) (no _ h2) (no _ h3) (no _ h4) (no _ h5) (no _ h6) (yes _ h7) _ rfl
 rw [if_neg h7]
 by_cases h8:Mt.atB p k=42
 ·rw [if_pos (Or.inl h8)];exact zKP p k w hk hp (no _ h1) (no _ h2) (no _ h3) (no _ h4) (no _ h5) (no _ h6) (no _ h7) (yes _ h8) _ rfl
 by_cases h9:Mt.atB p k=43
 ·rw [if_pos (Or.inr (Or.inl h9))];exact zKQ p k w hk hp (no _ h1) (no _ h2) (no _ h3) (no _ h4) (no _ h5) (no _ h6) (no _ h7) (no _ h8) (yes _ h9) _ rfl
 by_cases h10:Mt.atB p k=63
 ·rw [if_pos (Or.inr (Or.inr (Or.inl h10)))];exact zKR p k w hk hp (no _ h1) (no _ h2) (no _ h3) (no _ h4) (no _ h5) (no _ h6) (no _ h7) (no _ h8) (no _ h9) (yes _ h10) _ rfl
 by_cases h11:Mt.atB p k=123
 ·rw [if_pos (Or.inr (Or.inr (Or.inr h11)))];exact zI4 p k w hk hp (no _ h1) (no _ h2) (no _ h3) (no _ h4) (no _ h5) (no _ h6) (no _ h7) (no _ h8) (no _ h9) (no _ h10) (yes _ h11) _ rfl
 rw [if_neg (by rintro (h | h | h | h) <;> contradiction)]
 by_cases h12:Mt.atB p k=46
 ·rw [if_pos h12];exact zOf p k w hk hp (no _ h1) (no _ h2) (no _ h3) (no _ h4) (no _ h5) (no _ h6) (no _ h7) (no _ h8) (no _ h9) (no _ h10) (no _ h11) (yes _ h12)
 rw [if_neg h12]
 exact zMh p k w hk hp (no _ h1) (no _ h2) (no _ h3) (no _ h4) (no _ h5) (no _ h6) (no _ h7) (no _ h8) (no _ h9) (no _ h10) (no _ h11) (no _ h12)
theorem Tryz.info80:(Tryz.prog.info? 97).map (fun i=>(i.zero,i.size,i.bytes))=some (some (.agg #[.int .i64 0,.int .i64 0,.int .i64 0,.int .i64 0,.int .i64 0,.int .i64 0,.string ⟨#[]⟩]),7,64):=by kernel_rfl
def yY (w:World) (base:Nat) (v:Value) (l:List Mt.Tok):Prop:=w.ownsRow base 97 7 v l.length (l.flatMap yG)
theorem yY.toks {w:World} {base:Nat} {v:Value} {l:List Mt.Tok} (h:yY w base v l):toks w v l:=jY h (Nat.zero_le _)
theorem yY.below {w w':World} {base:Nat} {v:Value} {l:List Mt.Tok} (h:yY w base v l) (hb:Below w.heap.size w w'):yY w' base v l:=zAd h hb
theorem zCE {p:ByteArray} {a:Int} {k:Int} (hp:p.size≤64) (h:Mt.qD p [] 0=([],a,k)) (ha:a≠0):Mt.tokens p=([],a,k):=by
 unfold Mt.tokens
 rw [if_neg (by omega),Mt.vD p hp,h,if_pos ha]
theorem zBP {p:ByteArray} {l:List Mt.Tok} {k:Int} (hp:p.size≤64) (h:Mt.qD p [] 0=(l,0,k)) (ho:0<Mt.opened l):Mt.tokens p=([],11,(p.size:Int)):=by
 unfold Mt.tokens
 rw [if_neg (by omega),Mt.vD p hp,h,if_neg (by simp),if_pos ho]
theorem zHM {p:ByteArray} {l:List Mt.Tok} {k:Int} (hp:p.size≤64) (h:Mt.qD p [] 0=(l,0,k)) (ho:¬ 0<Mt.opened l):Mt.tokens p=(l,0,0):=by
 unfold Mt.tokens
 rw [if_neg (by omega),Mt.vD p hp,h,if_neg (by simp),if_neg ho]
theorem zHN {l:List Mt.Tok} {t:Mt.Tok} (h:Mt.kR t=false):Mt.joined l t=t:=by unfold Mt.joined;rw [h];rfl
theorem zKS {l:List Mt.Tok} {t:Mt.Tok} (h:Mt.kR t=true):Mt.joined l t={ t with n:=Mt.captures l+1 }:=by unfold Mt.joined;rw [h];rfl
theorem zI6 (t:Mt.Tok):∀ u∈yG t,u.oneCell'=true:=by
 intro u hu
 simp only [yG,List.mem_cons,List.not_mem_nil,or_false] at hu
 rcases hu with rfl | rfl | rfl | rfl | rfl | rfl | rfl <;> rfl
theorem yY.set {w:World} {base:Nat} {v:Value} {l:List Mt.Tok} (h:yY w base v l) (b x:Nat) (u:Value) (hne:∀ q,v.ownBlock=some q→q<b):yY (w.setCell ⟨b,x,none⟩ u) base v l :=
 World.ownsRow.kept h (zDl w ⟨b,x,none⟩ u) (Or.inr (fun e=>by have:=hne b e;omega))
theorem zGJ {w:World} {base:Nat} {v:Value} {l:List Mt.Tok} {t:Mt.Tok} (h:w.ownsRow base 97 7 v (l.length+1) (l.flatMap yG++yG t)):yY w base v (l++[t]):=by
 unfold yY
 rw [List.length_append,List.flatMap_append,List.flatMap_cons,List.flatMap_nil,List.append_nil]
 exact h
theorem zI7 (p:ByteArray) (w:World) (h:64<p.size) (hm:p.size≤maxLen) :
  Calls Tryz.prog 23 #[.string p] w fun e w'=>e=.returned (.tuple #[.slice none 0 0,.int .i64 1,.int .i64 0])∧w=w':=by
 unfold maxLen at hm
 go_enter Tryz.func23,Tryz.ntmps23
 go_wp2_with fail
 go_ret3
 exact ⟨rfl,rfl⟩
theorem zHO (p:ByteArray) (w:World) (hp:p.size≤64) :
  Calls Tryz.prog 23 #[.string p] w fun e w'=>∃ v,e=.returned (.tuple #[v,.int .i64 (Mt.tokens p).2.1,.int .i64 (Mt.tokens p).2.2])∧yY w' w.heap.size v (Mt.tokens p).1∧Below w.heap.size w w':=by
 obtain ⟨i0,hi,hz0,hz1,hz2⟩:=info_parts Tryz.info80
 go_enter Tryz.func23,Tryz.ntmps23
 go_wp2_with fail
 go_loopw [5,6] (fun v i wr=>∃ (k:Nat) (l:List Mt.Tok),k≤p.size∧l.length≤k∧i=.int .i64 k∧yY wr w.heap.size v l∧Below w.heap.size w wr∧Mt.qD p [] 0=Mt.qD p l k) (fun _ i _=>p.size-(intOf i).toNat)
 case atStart=>exact ⟨0,[],Nat.zero_le _,Nat.le_refl _,rfl,World.ownsRow_nil _ _ _ _,Below.refl _ _,rfl⟩
 case round =>
  obtain ⟨k,l,hk,hlk,rfl,hown,hbel,hr⟩:=hrel
  have H:Hid (Mt.qD p [] 0=Mt.qD p l k):=hr
  have HO:Hid (yY wr w.heap.size u5 l):=hown
  have hsz:=hbel.size
  clear hr hown
  by_cases hlt:k<p.size
  ·have hst:=Mt.vF p l k (by omega) (by omega)
   rw [if_neg (by omega),← H.out] at hst
   have hto:=Mt.zBL p k (by omega) (by omega)
   generalize hT:Mt.kK p k=T at *
   have HT:Hid (Mt.kK p k=T):=hT
   clear hT
   cases hne:(T.2==0)
   ·rw [if_pos (by simpa using hne)] at hst
    have HS:Hid (Mt.qD p [] 0=([],T.2,(k:Int))):=hst
    have hne2:(T.2 != 0)=true:=by simpa using hne
    clear hst H hto
    go_wp2_with (first | (go_at_call 48;refine (zJ2 _ _ _ hp (by omega) (by omega)).mono ?_;rw [HT.out];rintro e w1 ⟨rfl,hb1⟩;simp only [zAP]) | fail)
    go_ret3
    refine ⟨.slice none 0 0,?_,?_,?_⟩
    ·rw [zCE hp HS.out (by simpa using hne)];rfl
    ·rw [zCE hp HS.out (by simpa using hne)];exact World.ownsRow_nil _ _ _ _
    ·have hb2:Below w.heap.size w w1:=hbel.trans (hb1.mono hsz)
     exact hb2.alloc (by have:=hb2.size;omega) _
   ·have hn0:T.2=0:=by simpa using hne
    have zSj:=hto hn0
    have zTW:=zSj.1
    have zTX:=zSj.2
    rw [if_neg (by simp [hn0])] at hst
    clear hto zSj
    have HS:Hid (Mt.qD p [] 0=if Mt.may l T.1≠0 then ([],Mt.may l T.1,(k:Int)) else Mt.qD p (l++[Mt.joined l T.1]) T.1.to):=hst
    clear hst H hn0
    go_wp2_with (first | (go_at_call 48;refine (zJ2 _ _ _ hp (by omega) (by omega)).mono ?_;rw [HT.out];rintro e w1 ⟨rfl,hb1⟩;simp only [zAP]) | fail)
    have hbw:Below w.heap.size w w1:=hbel.trans (hb1.mono hsz)
    have hsz1:w.heap.size≤w1.heap.size:=hbw.size
    have HO1:Hid (yY w1 w.heap.size u5 l):=HO.out.below hb1
    refine (zP4 l T.1 u5 _ (HO1.out.toks.alloc _) (by omega)).mono ?_
    rintro e w2 ⟨rfl,hb2⟩
    have HO2:Hid (yY w2 w.heap.size u5 l):=yY.below (World.ownsRow.alloc HO1.out _) hb2
    obtain ⟨q0,q1,q2,q3⟩:=xO hb2
    have hg5:∀ q,u5.ownBlock=some q→q<w1.heap.size:=fun q hq=>(World.ownsRow.lt HO1.out q hq).2
    clear hb2 HO HO1 hb1
    have hbw2:Below w.heap.size w w2:=hbw.trans (q3.mono hsz1)
    have hsz2:w.heap.size≤w2.heap.size:=hbw2.size
    cases hm:(Mt.may l T.1 != 0)
    ·have hm0:¬ Mt.may l T.1≠0:=by simpa using hm
     have HS2:Hid (Mt.qD p [] 0=Mt.qD p (l++[Mt.joined l T.1]) T.1.to):=by show _=_;rw [HS.out,if_neg hm0]
     clear HS hm0
     rcases zE1 T.1 with ⟨e1,e3⟩ | ⟨e1,e2,e3⟩ | ⟨e1,e2,e3⟩
     ·have HJ:Hid (Mt.joined l T.1=T.1):=zHN e3
      clear e3
      go_wp2_with (first | (at_builtin;refine wpList_append_own _ rfl _ _ 56 rfl w.heap.size 97 i0 _ 7 64 Tryz.underlying56 hi hz0 hz1 hz2 rfl (by decide) _ _ _ rfl (World.ownsRow.alloc HO2.out _) ⟨w2.heap.size,0,none⟩ 1 1 (yG T.1) rfl rfl (zAC _ _ _) (zI6 _) ?c3 ?c4 ?c5 ?_))
      case c3=>unfold maxLen;omega
      case c4=>omega
      case c5=>simp;omega
      intro v' w3 hown' hgrow _
      have R1:Hid (yY w3 w.heap.size v' (l++[Mt.joined l T.1])):=by rw [HJ.out];exact zGJ hown'
      have R2:Below w.heap.size w w3:=(hbw2.alloc hsz2 _).grown hgrow (by simp;omega) (fun q hq'=>(World.ownsRow.lt HO2.out q hq').1)
      have q6:w3.cell? ⟨w1.heap.size,2,none⟩=some (.int .i64 T.1.to):=(zDM hgrow q2 hg5 2).trans (q0 2)
      clear hown' hgrow HO2 hg5
      go_wp2
      go_roundw
      case rel=>exact ⟨T.1.to.toNat,l++[Mt.joined l T.1],by omega,by rw [List.length_append];simp;omega,by rw [Int.toNat_of_nonneg (by omega)],R1.out,R2,by rw [Int.toNat_of_nonneg (by omega)];exact HS2.out⟩
      case measure=>simp [intOf];omega
     ·have HJ:Hid (Mt.joined l T.1=T.1):=zHN e3
      clear e3
      go_wp2_with (first | (at_builtin;refine wpList_append_own _ rfl _ _ 56 rfl w.heap.size 97 i0 _ 7 64 Tryz.underlying56 hi hz0 hz1 hz2 rfl (by decide) _ _ _ rfl (World.ownsRow.alloc HO2.out _) ⟨w2.heap.size,0,none⟩ 1 1 (yG T.1) rfl rfl (zAC _ _ _) (zI6 _) ?d3 ?d4 ?d5 ?_))
      case d3=>unfold maxLen;omega
      case d4=>omega
      case d5=>simp;omega
      intro v' w3 hown' hgrow _
      have R1:Hid (yY w3 w.heap.size v' (l++[Mt.joined l T.1])):=by rw [HJ.out];exact zGJ hown'
      have R2:Below w.heap.size w w3:=(hbw2.alloc hsz2 _).grown hgrow (by simp;omega) (fun q hq'=>(World.ownsRow.lt HO2.out q hq').1)
      have q6:w3.cell? ⟨w1.heap.size,2,none⟩=some (.int .i64 T.1.to):=(zDM hgrow q2 hg5 2).trans (q0 2)
      clear hown' hgrow HO2 hg5
      go_wp2
      go_roundw
      case rel=>exact ⟨T.1.to.toNat,l++[Mt.joined l T.1],by omega,by rw [List.length_append];simp;omega,by rw [Int.toNat_of_nonneg (by omega)],R1.out,R2,by rw [Int.toNat_of_nonneg (by omega)];exact HS2.out⟩
      case measure=>simp [intOf];omega
     ·have HJ:Hid (Mt.joined l T.1={ T.1 with n:=Mt.captures l+1 }):=zKS e3
      clear e3
      have ⟨b3,b4⟩:=Mt.xY l
      have HO3:Hid (yY (w2.setCell ⟨w1.heap.size,3,none⟩ (.int .i64 (Mt.captures l+1))) w.heap.size u5 l):=HO2.out.set _ _ _ hg5
      go_wp2_with (first | (go_at_call 50;refine (zEf l _ _ HO2.out.toks (by omega)).mono ?_;rintro e w' ⟨rfl,rfl⟩) | (at_builtin;refine wpList_append_own _ rfl _ _ 56 rfl w.heap.size 97 i0 _ 7 64 Tryz.underlying56 hi hz0 hz1 hz2 rfl (by decide) _ _ _ rfl (World.ownsRow.alloc HO3.out _) ⟨w2.heap.size,0,none⟩ 1 1 (yG { T.1 with n:=Mt.captures l+1 }) rfl rfl (zEX _ _ (by simp [World.setCell]) _ _) (zI6 _) ?g3 ?g4 ?g5 ?_))
      case g3=>unfold maxLen;omega
      case g4=>omega
      case g5=>simp;omega
      intro v' w3 hown' hgrow _
      have R1:Hid (yY w3 w.heap.size v' (l++[Mt.joined l T.1])):=by rw [HJ.out];exact zGJ hown'
      have R2:Below w.heap.size w w3:=((hbw2.setCell (p:=⟨w1.heap.size,3,none⟩) hsz1 _).alloc (by simp;omega) _).grown hgrow (by simp;omega) (fun q hq'=>(World.ownsRow.lt HO2.out q hq').1)
      have q5:(w2.setCell ⟨w1.heap.size,3,none⟩ (.int .i64 (Mt.captures l+1))).cell? ⟨w1.heap.size,2,none⟩=w2.cell? ⟨w1.heap.size,2,none⟩:=World.cell?_setCell_other _ _ _ _ (by simp)
      have q6:w3.cell? ⟨w1.heap.size,2,none⟩=some (.int .i64 T.1.to):=(zDM hgrow (by simp;omega) hg5 2).trans (q5.trans (q0 2))
      clear hown' hgrow HO2 hg5 HO3 q5
      go_wp2
      go_roundw
      case rel=>exact ⟨T.1.to.toNat,l++[Mt.joined l T.1],by omega,by rw [List.length_append];simp;omega,by rw [Int.toNat_of_nonneg (by omega)],R1.out,R2,by rw [Int.toNat_of_nonneg (by omega)];exact HS2.out⟩
      case measure=>simp [intOf];omega
    ·have hm0:Mt.may l T.1≠0:=by simpa using hm
     have HS2:Hid (Mt.qD p [] 0=([],Mt.may l T.1,(k:Int))):=by show _=_;rw [HS.out,if_pos hm0]
     have HM:Hid (Mt.may l T.1≠0):=hm0
     clear HS hm0
     go_wp2_with fail
     go_ret3
     refine ⟨.slice none 0 0,?_,?_,?_⟩
     ·rw [zCE hp HS2.out HM.out];rfl
     ·rw [zCE hp HS2.out HM.out];exact World.ownsRow_nil _ _ _ _
     ·exact hbw2
  ·have hst:=Mt.vF p l k (by omega) (by omega)
   rw [if_pos (by omega),← H.out] at hst
   have HS:Hid (Mt.qD p [] 0=(l,0,(k:Int))):=hst
   clear hst H
   have ⟨b1,b2⟩:=Mt.zDi l
   by_cases hop:0<Mt.opened l
   ·go_wp2_with (first | (go_at_call 51;refine (zDN l _ _ HO.out.toks (by omega)).mono ?_;rintro e w' ⟨rfl,rfl⟩) | fail)
    go_ret3
    refine ⟨.slice none 0 0,?_,?_,?_⟩
    ·rw [zBP hp HS.out hop];rfl
    ·rw [zBP hp HS.out hop];exact World.ownsRow_nil _ _ _ _
    ·exact hbel
   ·go_wp2_with (first | (go_at_call 51;refine (zDN l _ _ HO.out.toks (by omega)).mono ?_;rintro e w' ⟨rfl,rfl⟩) | fail)
    go_ret3
    refine ⟨u5,?_,?_,?_⟩
    ·rw [zHM hp HS.out (by omega)];rfl
    ·rw [zHM hp HS.out (by omega)];exact HO.out
    ·exact hbel
end Go.Proofs.YtebpgfodelggoaaGreat
namespace Mt
theorem zEH (p:ByteArray) (t:Int):0≤(xR p t).1∧(xR p t).1≤2:=by
 unfold xR
 split
 ·simp
 ·split <;> simp
theorem zJ3 (p:ByteArray) (i:Int):0≤(count p i).1∧(count p i).1≤20∧-1≤(count p i).2.1∧(count p i).2.1≤20:=by
 have b1:=vV p (i+1)
 have b2:=vV p (i+1+(number p (i+1)).2+1)
 unfold count
 split
 ·simp
 ·split
  ·simp only;omega
  ·split
   ·simp
   ·split
    ·simp only;omega
    ·split
     ·simp
     ·simp only;omega
theorem zMi (p:ByteArray) (i:Int):xS (kI p i).1:=by
 have m1:=zEH p (i+1)
 have m2:=zEH p (count p i).2.2.1
 have c:=zJ3 p i
 unfold kI
 split
 ·simp only [xS];omega
 ·split
  ·simp only [xS];omega
  ·split
   ·split
    ·simp only [xS];omega
    ·simp [xS]
   ·simp only [xS];omega
theorem zMj (p:ByteArray) (i:Int):xS (escape p i).1:=by
 unfold escape
 split
 ·simp [xS]
 ·split
  ·simp [xS]
  ·split
   ·simp only [xS];omega
   ·simp [xS]
theorem zKT (p:ByteArray) (i:Int):xS (opening p i).1:=by
 unfold opening
 split
 ·simp [xS]
 ·split
  ·simp [xS]
  ·split
   ·simp [xS]
   ·split
    ·simp [xS]
    ·split <;> simp [xS]
theorem zOh (p:ByteArray) (i:Int):xS (jM p i).1:=by
 unfold jM
 split <;> simp [xS]
theorem zP5 (p:ByteArray) (i:Int):xS (kK p i).1:=by
 unfold kK
 split
 ·simp [xS]
 split
 ·simp [xS]
 split
 ·simp [xS]
 split
 ·simp [xS]
 split
 ·exact zMj p i
 split
 ·exact zOh p i
 split
 ·exact zKT p i
 split
 ·exact zMi p i
 split
 ·simp [xS]
 ·simp [xS]
theorem zMk {l:List Tok} {t:Tok} (h:xS t) (hl:l.length≤64):xS (joined l t):=by
 unfold joined
 split
 ·rename_i hc
  have hk:t.kind=6:=by simp [kR] at hc;exact hc.1
  have:=xY l
  simp only [xS] at *
  omega
 ·exact h
theorem zMl (p:ByteArray) (hp:p.size≤64):∀ (f:Nat) (l:List Tok) (i:Int),0≤i→i≤p.size→(p.size:Int)-i<f→zAs l→(l.length:Int)≤i→zAs (qD p l i).1∧((qD p l i).1.length:Int)≤p.size:=by
 intro f
 induction f with
 | zero=>intro l i h0 h1 h2;omega
 | succ f ih =>
  intro l i h0 h1 h2 hl hn
  rw [vF p l i h0 h1]
  split
  ·exact ⟨hl,by simp only;omega⟩
  ·split
   ·exact ⟨by simp [zAs],by simp⟩
   ·split
    ·exact ⟨by simp [zAs],by simp⟩
    ·rename_i a b c
     have ht:=zBL p i h0 (by omega) (by omega)
     refine ih _ _ (by omega) (by omega) (by omega) ?_ ?_
     ·intro t hm
      rcases List.mem_append.1 hm with hm | hm
      ·exact hl t hm
      ·simp at hm;rw [hm];exact zMk (zP5 p i) (by omega)
     ·rw [List.length_append];simp;omega
theorem zAf (p:ByteArray):zAs (tokens p).1∧(tokens p).1.length≤64:=by
 unfold tokens
 split
 ·exact ⟨by simp [zAs],by simp⟩
 ·rename_i hp
  have h:=zMl p (by omega) ((p.size:Int)+1).toNat [] 0 (by omega) (by omega) (by omega) (by simp [zAs]) (by simp)
  rw [vD p (by omega)]
  split
  ·exact ⟨h.1,by have:=h.2;omega⟩
  ·split
   ·exact ⟨by simp [zAs],by simp⟩
   ·exact ⟨h.1,by have:=h.2;simp only;omega⟩
def jS (p:ByteArray):Int × Int :=
 if (tokens p).2.1≠0 then (tokens p).2
 else if 300<(coded (tokens p).1).length then (12,0)
 else (0,0)
end Mt
namespace Go.Proofs.YtebpgfodelggoaaGreat
open Go.RowKit
theorem zGb (p:ByteArray) (w:World) (hm:p.size≤maxLen) :
  Calls Tryz.prog 23 #[.string p] w fun e w'=>∃ v,e=.returned (.tuple #[v,.int .i64 (Mt.tokens p).2.1,.int .i64 (Mt.tokens p).2.2])∧toks w' v (Mt.tokens p).1∧Below w.heap.size w w':=by
 by_cases h:64<p.size
 ·have e:Mt.tokens p=([],1,0):=by unfold Mt.tokens;rw [if_pos h]
  rw [e]
  refine (zI7 p w h hm).mono ?_
  rintro e w' ⟨rfl,rfl⟩
  exact ⟨_,rfl,World.ownsRow_nil _ _ _ _,Below.refl _ _⟩
 ·refine (zHO p w (by omega)).mono ?_
  rintro e w' ⟨v,rfl,h1,h2⟩
  exact ⟨v,rfl,h1.toks,h2⟩
theorem zHP (p:ByteArray) (w:World) (hm:p.size≤maxLen) :
  Calls Tryz.prog 28 #[.string p] w fun e w'=>e=.returned (.tuple #[.int .i64 (Mt.jS p).1,.int .i64 (Mt.jS p).2])∧Below w.heap.size w w':=by
 have K:Hid (Calls Tryz.prog 23 #[.string p] w fun e w'=>∃ v,e=.returned (.tuple #[v,.int .i64 (Mt.tokens p).2.1,.int .i64 (Mt.tokens p).2.2])∧toks w' v (Mt.tokens p).1∧Below w.heap.size w w'):=zGb p w hm
 have ts:=Mt.zAf p
 have tsl:=ts.2
 have TS:Hid (Mt.zAs (Mt.tokens p).1):=ts.1
 have KC:Hid (∀ (v:Value) (z:World),toks z v (Mt.tokens p).1→Calls Tryz.prog 43 #[v] z fun e w'=>∃ v',e=.returned v'∧zB w' 0 v' (Mt.coded (Mt.tokens p).1)∧Below z.heap.size z w'):=fun v z hz=>zHL _ v z tsl TS.out hz
 have cb:((Mt.coded (Mt.tokens p).1).length:Int)≤100000000:=by
  have fc:=zDm TS.out 283 0 0 (Mt.tokens p).1.length 0 (by omega) (by omega)
  have:=(Mt.yJ fc (Mt.zAU (M:=70000000) (i:=⟨13,0,0,[]⟩) (yK _ _ _ _ (by omega) (by omega)) (by omega))).1
  unfold Mt.coded
  omega
 unfold Mt.jS
 generalize hT:Mt.tokens p=T at *
 clear hT ts
 generalize hC:Mt.coded T.1=C at *
 clear hC
 cases he:(T.2.1 != 0)
 ·rw [if_neg (by simpa using he)]
  by_cases hb:300<C.length
  ·rw [if_pos hb]
   go_enter Tryz.func28,Tryz.ntmps28
   go_wp2_with fail
   refine K.out.mono ?_
   rintro e w1 ⟨v1,rfl,q1,hb1⟩
   have Q1:Hid (toks w1 v1 T.1):=q1
   have hs1:=hb1.size
   clear q1
   go_wp2_with fail
   refine (KC.out v1 _ Q1.out).mono ?_
   rintro e w2 ⟨v2,rfl,q2,hb2⟩
   obtain ⟨ao,cap,rfl⟩:=zCi q2
   have hB2:Below w.heap.size w w2:=hb1.trans (hb2.mono hs1)
   clear q2 hb2 hb1
   go_wp2_with fail
   go_ret2
   exact ⟨rfl,hB2⟩
  ·rw [if_neg hb]
   go_enter Tryz.func28,Tryz.ntmps28
   go_wp2_with fail
   refine K.out.mono ?_
   rintro e w1 ⟨v1,rfl,q1,hb1⟩
   have Q1:Hid (toks w1 v1 T.1):=q1
   have hs1:=hb1.size
   clear q1
   go_wp2_with fail
   refine (KC.out v1 _ Q1.out).mono ?_
   rintro e w2 ⟨v2,rfl,q2,hb2⟩
   obtain ⟨ao,cap,rfl⟩:=zCi q2
   have hB2:Below w.heap.size w w2:=hb1.trans (hb2.mono hs1)
   clear q2 hb2 hb1
   go_wp2_with fail
   go_ret2
   exact ⟨rfl,hB2⟩
 ·rw [if_pos (by simpa using he)]
  go_enter Tryz.func28,Tryz.ntmps28
  go_wp2_with fail
  refine K.out.mono ?_
  rintro e w1 ⟨v1,rfl,q1,hb1⟩
  clear q1
  go_wp2_with fail
  go_ret2
  exact ⟨rfl,hb1⟩
end Go.Proofs.YtebpgfodelggoaaGreat
