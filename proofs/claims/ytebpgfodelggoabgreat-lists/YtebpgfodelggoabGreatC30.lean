import Derived.Test.YtebpgfodelggoabGreatC29
set_option linter.unusedVariables false
set_option linter.unusedSimpArgs false
set_option maxRecDepth 100000
set_option maxHeartbeats 2000000
namespace Go.Proofs.YtebpgfodelggoabGreat
open Go.RowKit
def coP (p:ByteArray) (i:Int):Mt.PT × Int:=if (Mt.count p i).2.2.2 then (zA3 p (Mt.count p i).2.2.1 (Mt.count p i).1 (Mt.count p i).2.1,0) else (Mt.pt0,4)
theorem zNm (p:ByteArray) (i:Int) :
  ((xV p (i+1)).2.2=false∧coP p i=(Mt.pt0,4)) ∨
  ((
   xV p (i+1)).2.2=true∧(Mt.atB p (xV p (i+1)).2.1==44)=false ∧
   (
   ((Mt.atB p (xV p (i+1)).2.1 != 125)=true∧coP p i=(Mt.pt0,4)) ∨
   ((Mt.atB p (xV p (i+1)).2.1 != 125)=false∧coP p i=(zA3 p ((xV p (i+1)).2.1+1) (xV p (i+1)).1 (xV p (i+1)).1,0)))) ∨
  ((
   xV p (i+1)).2.2=true∧(Mt.atB p (xV p (i+1)).2.1==44)=true ∧
   (
   ((xL p ((xV p (i+1)).2.1+1)).2.2=false∧coP p i=(Mt.pt0,4)) ∨
   ((xL p ((xV p (i+1)).2.1+1)).2.2=true∧((xL p ((xV p (i+1)).2.1+1)).1 != -1)=true∧decide ((xL p ((xV p (i+1)).2.1+1)).1<(xV p (i+1)).1)=true∧coP p i=(Mt.pt0,4)) ∨
   ((
    xL p ((xV p (i+1)).2.1+1)).2.2=true∧(((xL p ((xV p (i+1)).2.1+1)).1 != -1)=false∨((xL p ((xV p (i+1)).2.1+1)).1 != -1)=true∧decide ((xL p ((xV p (i+1)).2.1+1)).1<(xV p (i+1)).1)=false) ∧
    (
     ((Mt.atB p (xL p ((xV p (i+1)).2.1+1)).2.1 != 125)=true∧coP p i=(Mt.pt0,4)) ∨
     ((Mt.atB p (xL p ((xV p (i+1)).2.1+1)).2.1 != 125)=false∧coP p i=(zA3 p ((xL p ((xV p (i+1)).2.1+1)).2.1+1) (xV p (i+1)).1 (xL p ((xV p (i+1)).2.1+1)).1,0)))))):=by
 have b1:=Mt.vY p (i+1)
 have b2:=Mt.vY p (i+1+(Mt.number p (i+1)).2+1)
 have no:∀ x,Mt.count p i=x→x.2.2.2=false→coP p i=(Mt.pt0,4):=fun x h e=>by unfold coP;rw [h,e];rfl
 have yes:∀ a b c,Mt.count p i=(a,b,c,true)→coP p i=(zA3 p c a b,0):=fun a b c h=>by unfold coP;rw [h];rfl
 by_cases h1:(Mt.number p (i+1)).2=0∨20<(Mt.number p (i+1)).1
 ·left
  refine ⟨by unfold xV;rw [if_pos h1],no (0,0,0,false) ?_ rfl⟩
  unfold Mt.count;rw [if_pos h1]
 ·right
  have en:xV p (i+1)=((Mt.number p (i+1)).1,i+1+(Mt.number p (i+1)).2,true):=by unfold xV;rw [if_neg h1]
  rw [en]
  dsimp only
  by_cases h2:Mt.atB p (i+1+(Mt.number p (i+1)).2)=44
  ·right
   refine ⟨rfl,by simpa using h2,?_⟩
   by_cases h3:Mt.atB p (i+1+(Mt.number p (i+1)).2+1)=125
   ·have em:xL p (i+1+(Mt.number p (i+1)).2+1)=(-1,i+1+(Mt.number p (i+1)).2+1,true):=by unfold xL;rw [if_pos h3]
    rw [em]
    right;right
    refine ⟨rfl,Or.inl rfl,Or.inr ⟨by simpa using h3,?_⟩⟩
    rw [show i+1+(Mt.number p (i+1)).2+1+1=i+1+(Mt.number p (i+1)).2+2 by omega]
    apply yes
    unfold Mt.count;rw [if_neg h1,if_neg (by omega),if_neg (by omega),if_pos h3]
   ·have em:xL p (i+1+(Mt.number p (i+1)).2+1)=xV p (i+1+(Mt.number p (i+1)).2+1):=by unfold xL;rw [if_neg h3]
    rw [em]
    by_cases h4:(Mt.number p (i+1+(Mt.number p (i+1)).2+1)).2=0∨20<(Mt.number p (i+1+(Mt.number p (i+1)).2+1)).1
    ·left
     refine ⟨by unfold xV;rw [if_pos h4],no (0,0,0,false) ?_ rfl⟩
     unfold Mt.count;rw [if_neg h1,if_neg (by omega),if_neg (by omega),if_neg h3,if_pos (by omega)]
    ·right
     have ey:xV p (i+1+(Mt.number p (i+1)).2+1)=((Mt.number p (i+1+(Mt.number p (i+1)).2+1)).1,i+1+(Mt.number p (i+1)).2+1+(Mt.number p (i+1+(Mt.number p (i+1)).2+1)).2,true):=by unfold xV;rw [if_neg h4]
     rw [ey]
     dsimp only
     by_cases h5:(Mt.number p (i+1+(Mt.number p (i+1)).2+1)).1<(Mt.number p (i+1)).1
     ·left
      refine ⟨rfl,by simp;omega,by simpa using h5,no (0,0,0,false) ?_ rfl⟩
      unfold Mt.count;rw [if_neg h1,if_neg (by omega),if_neg (by omega),if_neg h3,if_pos (by omega)]
     ·right
      refine ⟨rfl,Or.inr ⟨by simp;omega,by simpa using h5⟩,?_⟩
      by_cases h6:Mt.atB p (i+1+(Mt.number p (i+1)).2+1+(Mt.number p (i+1+(Mt.number p (i+1)).2+1)).2)=125
      ·right
       refine ⟨by simpa using h6,?_⟩
       rw [show i+1+(Mt.number p (i+1)).2+1+(Mt.number p (i+1+(Mt.number p (i+1)).2+1)).2+1=i+1+(Mt.number p (i+1)).2+2+(Mt.number p (i+1+(Mt.number p (i+1)).2+1)).2 by omega]
       apply yes
       unfold Mt.count;rw [if_neg h1,if_neg (by omega),if_neg (by omega),if_neg h3,if_neg (by omega)]
      ·left
       refine ⟨by simpa using h6,no (0,0,0,false) ?_ rfl⟩
       unfold Mt.count;rw [if_neg h1,if_neg (by omega),if_neg (by omega),if_neg h3,if_pos (by omega)]
  ·left
   refine ⟨rfl,by simpa using h2,?_⟩
   by_cases h3:Mt.atB p (i+1+(Mt.number p (i+1)).2)=125
   ·right
    refine ⟨by simpa using h3,yes _ _ _ ?_⟩
    unfold Mt.count;rw [if_neg h1,if_pos h3]
   ·left
    refine ⟨by simpa using h3,no (0,0,0,false) ?_ rfl⟩
    unfold Mt.count;rw [if_neg h1,if_neg h3,if_pos h2]
theorem zNn (p:ByteArray) (i:Int) (h:0≤i):0≤(xV p i).2.1∧(xV p i).2.1≤i+2∧0≤(xV p i).1∧(xV p i).1≤20:=by
 have b1:=Mt.vY p i
 unfold xV;split
 ·simp;omega
 ·simp only;omega
theorem zPn (p:ByteArray) (i:Int) (h:0≤i):0≤(xL p i).2.1∧(xL p i).2.1≤i+2∧-1≤(xL p i).1∧(xL p i).1≤20:=by
 have b1:=zNn p i h
 unfold xL;split
 ·simp only;omega
 ·omega
theorem zHl (p:ByteArray) (i:Int) (w:World) (hp:p.size≤64) (hi0:0≤i) (hi1:i≤100) :
  Calls Tryz.prog 87 #[.string p,.int .i64 i] w fun e w'=>e=.returned (.tuple #[ptV (coP p i).1,.int .i64 (coP p i).2])∧Below w.heap.size w w':=by
 obtain ⟨n1,n2,n3,n4⟩:=zNn p (i+1) (by omega)
 obtain ⟨m1,m2,m3,m4⟩:=zPn p ((xV p (i+1)).2.1+1) (by omega)
 rcases zNm p i with ⟨a1,e⟩ | ⟨a1,a2,⟨a3,e⟩ | ⟨a3,e⟩⟩ | ⟨a1,a2,⟨a3,e⟩ | ⟨a3,a4,a5,e⟩ | ⟨a3,a4,⟨a5,e⟩ | ⟨a5,e⟩⟩⟩
 ·rw [e];clear e
  go_enter Tryz.func87,Tryz.ntmps87
  go_wp2_with (first | (go_at_call 84;refine (zQ _ _ _ hp).mono ?_;rintro e w' ⟨rfl,rfl⟩) | (go_at_call 119;refine (yB _ _ _ hp (by omega) (by omega)).mono ?_;rintro e w' ⟨rfl,rfl⟩) | (go_at_call 120;refine (xA _ _ _ hp (by omega) (by omega)).mono ?_;rintro e w' ⟨rfl,rfl⟩))
  go_returns
  exact ⟨rfl,by go_grown⟩
 ·rw [e];clear e
  go_enter Tryz.func87,Tryz.ntmps87
  go_wp2_with (first | (go_at_call 84;refine (zQ _ _ _ hp).mono ?_;rintro e w' ⟨rfl,rfl⟩) | (go_at_call 119;refine (yB _ _ _ hp (by omega) (by omega)).mono ?_;rintro e w' ⟨rfl,rfl⟩) | (go_at_call 120;refine (xA _ _ _ hp (by omega) (by omega)).mono ?_;rintro e w' ⟨rfl,rfl⟩))
  go_returns
  exact ⟨rfl,by go_grown⟩
 ·rw [e];clear e
  obtain ⟨T,hT⟩:∃ T,T=zA3 p ((xV p (i+1)).2.1+1) (xV p (i+1)).1 (xV p (i+1)).1:=⟨_,rfl⟩
  rw [← hT]
  have HT:Hid (T=zA3 p ((xV p (i+1)).2.1+1) (xV p (i+1)).1 (xV p (i+1)).1):=hT
  clear hT
  go_enter Tryz.func87,Tryz.ntmps87
  go_wp2_with (first | (go_at_call 84;refine (zQ _ _ _ hp).mono ?_;rintro e w' ⟨rfl,rfl⟩) | (go_at_call 119;refine (yB _ _ _ hp (by omega) (by omega)).mono ?_;rintro e w' ⟨rfl,rfl⟩) | (go_at_call 120;refine (xA _ _ _ hp (by omega) (by omega)).mono ?_;rintro e w' ⟨rfl,rfl⟩))
  have MA:=zAW p ((xV p (i+1)).2.1+1) (xV p (i+1)).1 (xV p (i+1)).1 (w.alloc (.cells (ptA Mt.pt0) 100)) hp (by omega) (by omega)
  rw [← HT.out] at MA
  refine MA.mono ?_
  clear MA
  rintro e w1 ⟨rfl,b1⟩
  have HZ:Hid (w1.heap[w.heap.size]?=some (.cells (ptA Mt.pt0) 100 (0,0))∧Below w.heap.size w w1):=⟨(b1.block _ (by simp)).trans (kX w _),((Below.refl _ _).alloc (Nat.le_refl _) _).trans (b1.mono (by simp))⟩
  clear b1
  go_wp2_with (refine zK 100 8 Tryz.sizePT (by rfl) (.tmp 4) (.tmp 56) (by rfl) w.heap.size (ptA T) (by rfl) (by rfl) HZ.out.1 (by rfl) (by rfl) (yX _) ?_;intro w3 r1 r2 r3 r4)
  refine bodyPost_ret (kW 100 8 Tryz.underlying100 rfl Tryz.sizePT rfl (by rfl) r1 (by rfl)) rfl ⟨rfl,?_⟩
  exact HZ.out.2.trans (r4 _ (Nat.le_refl _))
 ·rw [e];clear e
  go_enter Tryz.func87,Tryz.ntmps87
  go_wp2_with (first | (go_at_call 84;refine (zQ _ _ _ hp).mono ?_;rintro e w' ⟨rfl,rfl⟩) | (go_at_call 119;refine (yB _ _ _ hp (by omega) (by omega)).mono ?_;rintro e w' ⟨rfl,rfl⟩) | (go_at_call 120;refine (xA _ _ _ hp (by omega) (by omega)).mono ?_;rintro e w' ⟨rfl,rfl⟩))
  go_returns
  exact ⟨rfl,by go_grown⟩
 ·rw [e];clear e
  go_enter Tryz.func87,Tryz.ntmps87
  go_wp2_with (first | (go_at_call 84;refine (zQ _ _ _ hp).mono ?_;rintro e w' ⟨rfl,rfl⟩) | (go_at_call 119;refine (yB _ _ _ hp (by omega) (by omega)).mono ?_;rintro e w' ⟨rfl,rfl⟩) | (go_at_call 120;refine (xA _ _ _ hp (by omega) (by omega)).mono ?_;rintro e w' ⟨rfl,rfl⟩))
  go_returns
  exact ⟨rfl,by go_grown⟩
 ·rw [e];clear e
  rcases a4 with a4 | ⟨a4,a4'⟩
  all_goals
   go_enter Tryz.func87,Tryz.ntmps87
   go_wp2_with (first | (go_at_call 84;refine (zQ _ _ _ hp).mono ?_;rintro e w' ⟨rfl,rfl⟩) | (go_at_call 119;refine (yB _ _ _ hp (by omega) (by omega)).mono ?_;rintro e w' ⟨rfl,rfl⟩) | (go_at_call 120;refine (xA _ _ _ hp (by omega) (by omega)).mono ?_;rintro e w' ⟨rfl,rfl⟩))
   go_returns
   exact ⟨rfl,by go_grown⟩
 ·rw [e];clear e
  obtain ⟨T,hT⟩:∃ T,T=zA3 p ((xL p ((xV p (i+1)).2.1+1)).2.1+1) (xV p (i+1)).1 (xL p ((xV p (i+1)).2.1+1)).1:=⟨_,rfl⟩
  rw [← hT]
  have HT:Hid (T=zA3 p ((xL p ((xV p (i+1)).2.1+1)).2.1+1) (xV p (i+1)).1 (xL p ((xV p (i+1)).2.1+1)).1):=hT
  clear hT
  rcases a4 with a4 | ⟨a4,a4'⟩
  all_goals
   go_enter Tryz.func87,Tryz.ntmps87
   go_wp2_with (first | (go_at_call 84;refine (zQ _ _ _ hp).mono ?_;rintro e w' ⟨rfl,rfl⟩) | (go_at_call 119;refine (yB _ _ _ hp (by omega) (by omega)).mono ?_;rintro e w' ⟨rfl,rfl⟩) | (go_at_call 120;refine (xA _ _ _ hp (by omega) (by omega)).mono ?_;rintro e w' ⟨rfl,rfl⟩))
   have MA:=zAW p ((xL p ((xV p (i+1)).2.1+1)).2.1+1) (xV p (i+1)).1 (xL p ((xV p (i+1)).2.1+1)).1 (w.alloc (.cells (ptA Mt.pt0) 100)) hp (by omega) (by omega)
   rw [← HT.out] at MA
   refine MA.mono ?_
   clear MA
   rintro e w1 ⟨rfl,b1⟩
   have HZ:Hid (w1.heap[w.heap.size]?=some (.cells (ptA Mt.pt0) 100 (0,0))∧Below w.heap.size w w1):=⟨(b1.block _ (by simp)).trans (kX w _),((Below.refl _ _).alloc (Nat.le_refl _) _).trans (b1.mono (by simp))⟩
   clear b1
   go_wp2_with (refine zK 100 8 Tryz.sizePT (by rfl) (.tmp 4) (.tmp 56) (by rfl) w.heap.size (ptA T) (by rfl) (by rfl) HZ.out.1 (by rfl) (by rfl) (yX _) ?_;intro w3 r1 r2 r3 r4)
   refine bodyPost_ret (kW 100 8 Tryz.underlying100 rfl Tryz.sizePT rfl (by rfl) r1 (by rfl)) rfl ⟨rfl,?_⟩
   exact HZ.out.2.trans (r4 _ (Nat.le_refl _))
def opP (p:ByteArray) (i:Int):Mt.PT × Int:=if (Mt.opening p i).2 then (Mt.jW (Mt.opening p i).1,0) else (Mt.pt0,5)
theorem zNo (p:ByteArray) (i:Int) :
  ((Mt.atB p (i+1) != 63)=true∧opP p i=(⟨2,i+1,1,0,0,0,0,[]⟩,0)) ∨
  ((
   Mt.atB p (i+1) != 63)=false ∧
   (
   ((Mt.atB p (i+2)==58)=true∧opP p i=(⟨2,i+3,2,0,0,0,0,[]⟩,0)) ∨
   ((Mt.atB p (i+2)==58)=false∧(Mt.atB p (i+2)==62)=true∧opP p i=(⟨2,i+3,3,0,0,0,0,[]⟩,0)) ∨
   ((Mt.atB p (i+2)==58)=false∧(Mt.atB p (i+2)==62)=false∧(Mt.atB p (i+2)==61)=true∧opP p i=(⟨2,i+3,4,0,0,0,0,[]⟩,0)) ∨
   ((Mt.atB p (i+2)==58)=false∧(Mt.atB p (i+2)==62)=false∧(Mt.atB p (i+2)==61)=false∧(Mt.atB p (i+2)==33)=true∧opP p i=(⟨2,i+3,5,0,0,0,0,[]⟩,0)) ∨
   ((Mt.atB p (i+2)==58)=false∧(Mt.atB p (i+2)==62)=false∧(Mt.atB p (i+2)==61)=false∧(Mt.atB p (i+2)==33)=false∧opP p i=(Mt.pt0,5)))):=by
 unfold opP
 rcases Mt.zA8 p i with ⟨a1,e⟩ | ⟨a1,⟨a2,e⟩ | ⟨a2,a3,e⟩ | ⟨a2,a3,a4,e⟩ | ⟨a2,a3,a4,a5,e⟩ | ⟨a2,a3,a4,a5,e⟩⟩
 ·exact Or.inl ⟨a1,by rw [e];rfl⟩
 ·exact Or.inr ⟨a1,Or.inl ⟨a2,by rw [e];rfl⟩⟩
 ·exact Or.inr ⟨a1,Or.inr (Or.inl ⟨a2,a3,by rw [e];rfl⟩)⟩
 ·exact Or.inr ⟨a1,Or.inr (Or.inr (Or.inl ⟨a2,a3,a4,by rw [e];rfl⟩))⟩
 ·exact Or.inr ⟨a1,Or.inr (Or.inr (Or.inr (Or.inl ⟨a2,a3,a4,a5,by rw [e];rfl⟩)))⟩
 ·exact Or.inr ⟨a1,Or.inr (Or.inr (Or.inr (Or.inr ⟨a2,a3,a4,a5,by rw [e];rfl⟩)))⟩
theorem zFE (p:ByteArray) (i:Int) (w:World) (hp:p.size≤64) (hi0:0≤i) (hi1:i≤100) :
  Calls Tryz.prog 85 #[.string p,.int .i64 i] w fun e w'=>e=.returned (.tuple #[ptV (opP p i).1,.int .i64 (opP p i).2])∧Below w.heap.size w w':=by
 rcases zNo p i with ⟨a1,e⟩ | ⟨a1,⟨a2,e⟩ | ⟨a2,a3,e⟩ | ⟨a2,a3,a4,e⟩ | ⟨a2,a3,a4,a5,e⟩ | ⟨a2,a3,a4,a5,e⟩⟩
 all_goals
  rw [e];clear e
  go_enter Tryz.func85,Tryz.ntmps85
  go_wp2_with (go_at_call 84;refine (zQ _ _ _ hp).mono ?_;rintro e w' ⟨rfl,rfl⟩)
  go_returns
  exact ⟨rfl,by go_grown⟩
def esP (p:ByteArray) (i:Int):Mt.PT × Int:=if (Mt.escape p i).2 then (Mt.jW (Mt.escape p i).1,0) else (Mt.pt0,2)
theorem zQW (p:ByteArray) (i:Int) (h0:Mt.atB p i=92) (h:Mt.atB p (i+1)=100∨Mt.atB p (i+1)=119):Mt.qL (Mt.zJb Mt.none0 (decide (Mt.atB p (i+1)=119))) 256=Mt.all p i (i+2) false:=by
 rw [← Mt.zDE]
 refine Mt.zBN (fun c _=>?_)
 have e:Mt.item p i=(92,Mt.atB p (i+1),2,true):=by unfold Mt.item;rw [if_pos ⟨h0,h⟩]
 rw [Mt.zGz,Mt.qZ,if_neg (by omega),e,if_neg (by simp),Mt.zB4]
 simp only [if_true]
 cases Mt.zCl (decide (Mt.atB p (i+1)=119)) (c:Int) <;> simp [Mt.none0]
theorem zNp (p:ByteArray) (i:Int) (h0:Mt.atB p i=92) :
  (decide (49≤Mt.atB p (i+1))=true∧decide (Mt.atB p (i+1)≤57)=true∧49≤Mt.atB p (i+1)∧Mt.atB p (i+1)≤57∧esP p i=(⟨6,i+2,0,Mt.atB p (i+1)-48,0,0,0,[]⟩,0)) ∨
  ((
   decide (49≤Mt.atB p (i+1))=false∨decide (49≤Mt.atB p (i+1))=true∧decide (Mt.atB p (i+1)≤57)=false) ∧
   (
   ((Mt.atB p (i+1)==100||Mt.atB p (i+1)==119)=true∧esP p i=(⟨5,i+2,0,0,0,0,0,Mt.qL (Mt.zJb Mt.none0 (decide (Mt.atB p (i+1)=119))) 256⟩,0)) ∨
   ((Mt.atB p (i+1)==100||Mt.atB p (i+1)==119)=false∧zJJ (Mt.atB p (i+1))=true∧esP p i=(⟨5,i+2,0,0,0,0,0,Mt.qL (Mt.zAF Mt.none0 (Mt.atB p (i+1)) (Mt.atB p (i+1))) 256⟩,0)) ∨
   ((Mt.atB p (i+1)==100||Mt.atB p (i+1)==119)=false∧zJJ (Mt.atB p (i+1))=false∧esP p i=(Mt.pt0,2)))):=by
 have l0:=Mt.zHP p (i+1)
 have l1:=Mt.zEi p (i+1)
 have he:=zKD (Mt.atB p (i+1)) l0
 have yes:∀ t,Mt.escape p i=(t,true)→esP p i=(Mt.jW t,0):=fun t h=>by unfold esP;rw [h];rfl
 have no:∀ t,Mt.escape p i=(t,false)→esP p i=(Mt.pt0,2):=fun t h=>by unfold esP;rw [h];rfl
 by_cases h1:Mt.atB p (i+1)<0
 ·right
  refine ⟨Or.inl (by simp;omega),Or.inr (Or.inr ⟨?_,?_,no ⟨1,i,i+2,0,0,0,[]⟩ (by unfold Mt.escape;rw [if_pos h1])⟩)⟩
  ·simp;omega
  ·cases x:zJJ (Mt.atB p (i+1));rfl;exact absurd (Or.inl h1) (he.1 x)
 ·by_cases h2:Mt.atB p (i+1)=100∨Mt.atB p (i+1)=119
  ·right
   refine ⟨Or.inr ⟨by simp;omega,by simp;omega⟩,Or.inl ⟨by simpa using h2,?_⟩⟩
   rw [zQW p i h0 h2]
   exact yes ⟨1,i,i+2,0,0,0,Mt.all p i (i+2) false⟩ (by unfold Mt.escape;rw [if_neg h1,if_pos h2])
  ·have h2':(Mt.atB p (i+1)==100||Mt.atB p (i+1)==119)=false:=by simpa using h2
   by_cases h3:49≤Mt.atB p (i+1)∧Mt.atB p (i+1)≤57
   ·left
    exact ⟨by simpa using h3.1,by simpa using h3.2,h3.1,h3.2,yes ⟨2,i,i+2,Mt.atB p (i+1)-48,0,0,[]⟩ (by unfold Mt.escape;rw [if_neg h1,if_neg h2,if_pos h3])⟩
   ·right
    have e:Mt.escape p i=(⟨1,i,i+2,0,0,0,[UInt8.ofNat (Mt.atB p (i+1)).toNat]⟩,!Mt.zC2 (Mt.atB p (i+1))&&!Mt.zCY (Mt.atB p (i+1))):=by
     unfold Mt.escape;rw [if_neg h1,if_neg h2,if_neg h3]
    refine ⟨?_,Or.inr ?_⟩
    ·simp only [decide_eq_true_eq,decide_eq_false_iff_not];omega
    ·have eb:zJJ (Mt.atB p (i+1))=(!Mt.zC2 (Mt.atB p (i+1))&&!Mt.zCY (Mt.atB p (i+1))):=by
      unfold zJJ
      have:(Mt.atB p (i+1) != -1)=true:=by simp;omega
      rw [this];cases Mt.zC2 (Mt.atB p (i+1)) <;> cases Mt.zCY (Mt.atB p (i+1)) <;> rfl
     rw [← eb] at e
     cases hx:zJJ (Mt.atB p (i+1))
     ·rw [hx] at e;exact Or.inr ⟨h2',rfl,no _ e⟩
     ·rw [hx] at e
      refine Or.inl ⟨h2',rfl,?_⟩
      rw [Mt.zM6 _ (by omega) l1]
      exact yes _ e
theorem zGc (p:ByteArray) (i:Int) (w:World) (hp:p.size≤64) (hi0:0≤i) (hi1:i≤100) (h92:Mt.atB p i=92) :
  Calls Tryz.prog 90 #[.string p,.int .i64 i] w fun e w'=>e=.returned (.tuple #[ptV (esP p i).1,.int .i64 (esP p i).2])∧Below w.heap.size w w':=by
 have HC:=zNp p i h92
 clear h92
 rcases HC with ⟨a1,a2,b1,b2,e⟩ | ⟨a0,⟨a1,e⟩ | ⟨a1,a2,e⟩ | ⟨a1,a2,e⟩⟩
 ·rw [e];clear e
  go_enter Tryz.func90,Tryz.ntmps90
  go_wp2_with (go_at_call 84;refine (zQ _ _ _ hp).mono ?_;rintro e w' ⟨rfl,rfl⟩)
  go_returns
  exact ⟨rfl,by go_grown⟩
 ·rw [e];clear e
  obtain ⟨T,hT⟩:∃ T,T=Mt.qL (Mt.zJb Mt.none0 (decide (Mt.atB p (i+1)=119))) 256:=⟨_,rfl⟩
  rw [← hT]
  have HT:Hid (T=Mt.qL (Mt.zJb Mt.none0 (decide (Mt.atB p (i+1)=119))) 256):=hT
  clear hT
  rcases a0 with a0 | ⟨a0,a0'⟩
  all_goals
   go_enter Tryz.func90,Tryz.ntmps90
   go_wp2_with (first | (go_at_call 84;refine (zQ _ _ _ hp).mono ?_;rintro e w' ⟨rfl,rfl⟩) | (go_at_call 125;refine (qC _ _).mono ?_;rintro e w' ⟨rfl,rfl⟩))
   refine (zDN _ (w.heap.size+1) Mt.none0 _ (by exact zFB _ _)).mono ?_
   rintro e w1 ⟨rfl,s1,o1⟩
   obtain ⟨z1,b1,sz⟩:=zFA o1
   have HS:Hid (setAt w1 (w.heap.size+1) (Mt.zJb Mt.none0 (decide (Mt.atB p (i+1)=119)))):=s1
   have HB:Hid (Below w.heap.size w w1):=b1
   clear s1 o1 b1
   go_wp2_with fail
   have TA:=zES w1 (w.heap.size+1) _ HS.out
   rw [← HT.out] at TA
   refine TA.mono ?_
   clear TA
   rintro e w2 ⟨rfl,b2⟩
   have z2:w2.heap[w.heap.size]?=_:=(b2.block _ (by omega)).trans z1
   have HB2:Hid (Below w.heap.size w w2):=HB.out.trans (b2.mono (by omega))
   clear b2 z1
   go_wp2_with (refine zK 100 8 Tryz.sizePT (by rfl) (.tmp 4) (.tmp 30) (by rfl) w.heap.size (ptA ⟨5,i+2,0,0,0,0,0,T⟩) (by rfl) (by rfl) z2 (by rfl) (by rfl) (yX _) ?_;intro w3 r1 r2 r3 r4)
   refine bodyPost_ret (kW 100 8 Tryz.underlying100 rfl Tryz.sizePT rfl (by rfl) r1 (by rfl)) rfl ⟨rfl,?_⟩
   exact HB2.out.trans (r4 _ (Nat.le_refl _))
 ·rw [e];clear e
  obtain ⟨T,hT⟩:∃ T,T=Mt.qL (Mt.zAF Mt.none0 (Mt.atB p (i+1)) (Mt.atB p (i+1))) 256:=⟨_,rfl⟩
  rw [← hT]
  have HT:Hid (T=Mt.qL (Mt.zAF Mt.none0 (Mt.atB p (i+1)) (Mt.atB p (i+1))) 256):=hT
  clear hT
  rcases a0 with a0 | ⟨a0,a0'⟩
  all_goals
   go_enter Tryz.func90,Tryz.ntmps90
   go_wp2_with (first | (go_at_call 84;refine (zQ _ _ _ hp).mono ?_;rintro e w' ⟨rfl,rfl⟩) | (go_at_call 125;refine (qC _ _).mono ?_;rintro e w' ⟨rfl,rfl⟩) | (go_at_call 127;refine (zA1 _ _).mono ?_;rintro e w' ⟨rfl,rfl⟩))
   have TA:=zFC (w.alloc (.cells (ptA Mt.pt0) 100)) (Mt.atB p (i+1)) (Mt.atB p (i+1)) (i+2)
   rw [← HT.out] at TA
   refine TA.mono ?_
   clear TA
   rintro e w2 ⟨rfl,b2⟩
   have HZ:Hid (w2.heap[w.heap.size]?=some (.cells (ptA Mt.pt0) 100 (0,0))∧Below w.heap.size w w2):=⟨(b2.block _ (by simp)).trans (kX w _),((Below.refl _ _).alloc (Nat.le_refl _) _).trans (b2.mono (by simp))⟩
   clear b2
   go_wp2_with (refine zK 100 8 Tryz.sizePT (by rfl) (.tmp 4) (.tmp 37) (by rfl) w.heap.size (ptA ⟨5,i+2,0,0,0,0,0,T⟩) (by rfl) (by rfl) HZ.out.1 (by rfl) (by rfl) (yX _) ?_;intro w3 r1 r2 r3 r4)
   refine bodyPost_ret (kW 100 8 Tryz.underlying100 rfl Tryz.sizePT rfl (by rfl) r1 (by rfl)) rfl ⟨rfl,?_⟩
   exact HZ.out.2.trans (r4 _ (Nat.le_refl _))
 ·rw [e];clear e
  rcases a0 with a0 | ⟨a0,a0'⟩
  all_goals
   go_enter Tryz.func90,Tryz.ntmps90
   go_wp2_with (first | (go_at_call 84;refine (zQ _ _ _ hp).mono ?_;rintro e w' ⟨rfl,rfl⟩) | (go_at_call 125;refine (qC _ _).mono ?_;rintro e w' ⟨rfl,rfl⟩) | (go_at_call 127;refine (zA1 _ _).mono ?_;rintro e w' ⟨rfl,rfl⟩))
   go_returns
   exact ⟨rfl,by go_grown⟩
theorem zSc (p:ByteArray) (i:Int) (h:Mt.atB p i=124):Mt.xZ p i=(⟨1,i+1,0,0,0,0,0,[]⟩,0):=by
 have e:Mt.kK p i=(⟨5,i,i+1,0,0,0,[]⟩,0):=by unfold Mt.kK;rw [if_pos h]
 unfold Mt.xZ;rw [e];rfl
theorem zPo (p:ByteArray) (i:Int) (h:Mt.atB p i=41):Mt.xZ p i=(⟨3,i+1,0,0,0,0,0,[]⟩,0):=by
 have e:Mt.kK p i=(⟨7,i,i+1,0,0,0,[]⟩,0):=by unfold Mt.kK;rw [if_neg (by omega),if_pos h]
 unfold Mt.xZ;rw [e];rfl
theorem zQX (p:ByteArray) (i:Int) (h:Mt.atB p i=94):Mt.xZ p i=(⟨7,i+1,0,0,0,0,0,[]⟩,0):=by
 have e:Mt.kK p i=(⟨3,i,i+1,0,0,0,[]⟩,0):=by unfold Mt.kK;rw [if_neg (by omega),if_neg (by omega),if_pos h]
 unfold Mt.xZ;rw [e];rfl
theorem zQY (p:ByteArray) (i:Int) (h:Mt.atB p i=36):Mt.xZ p i=(⟨8,i+1,0,0,0,0,0,[]⟩,0):=by
 have e:Mt.kK p i=(⟨4,i,i+1,0,0,0,[]⟩,0):=by unfold Mt.kK;rw [if_neg (by omega),if_neg (by omega),if_neg (by omega),if_pos h]
 unfold Mt.xZ;rw [e];rfl
theorem zSd (p:ByteArray) (i:Int) (h:Mt.atB p i=92):Mt.xZ p i=esP p i:=by
 have e:Mt.kK p i=((Mt.escape p i).1,if (Mt.escape p i).2 then 0 else 2):=by unfold Mt.kK;rw [if_neg (by omega),if_neg (by omega),if_neg (by omega),if_neg (by omega),if_pos h]
 unfold Mt.xZ esP;rw [e]
 cases (Mt.escape p i).2 <;> rfl
theorem zPp (p:ByteArray) (i:Int) (h:Mt.atB p i=91):Mt.xZ p i=clP p i:=by
 have e:Mt.kK p i=((Mt.jN p i).1,if (Mt.jN p i).2 then 0 else 3):=by unfold Mt.kK;rw [if_neg (by omega),if_neg (by omega),if_neg (by omega),if_neg (by omega),if_neg (by omega),if_pos h]
 unfold Mt.xZ clP;rw [e]
 cases (Mt.jN p i).2 <;> rfl
theorem zQZ (p:ByteArray) (i:Int) (h:Mt.atB p i=40):Mt.xZ p i=opP p i:=by
 have e:Mt.kK p i=((Mt.opening p i).1,if (Mt.opening p i).2 then 0 else 5):=by unfold Mt.kK;rw [if_neg (by omega),if_neg (by omega),if_neg (by omega),if_neg (by omega),if_neg (by omega),if_neg (by omega),if_pos h]
 unfold Mt.xZ opP;rw [e]
 cases (Mt.opening p i).2 <;> rfl
theorem zQ0 (p:ByteArray) (i:Int) (h:Mt.atB p i=42):Mt.xZ p i=(zA3 p (i+1) 0 (-1),0):=by
 have r:Mt.kJ p i=(⟨8,i,(Mt.xW p (i+1)).2,0,-1,(Mt.xW p (i+1)).1,[]⟩,true):=by unfold Mt.kJ;rw [if_neg (by omega),if_neg (by omega),if_neg (by omega)]
 have e:Mt.kK p i=((Mt.kJ p i).1,if (Mt.kJ p i).2 then 0 else 4):=by unfold Mt.kK;rw [if_neg (by omega),if_neg (by omega),if_neg (by omega),if_neg (by omega),if_neg (by omega),if_neg (by omega),if_neg (by omega),if_pos (by omega)]
 unfold Mt.xZ;rw [e,r];rfl
theorem zQ1 (p:ByteArray) (i:Int) (h:Mt.atB p i=43):Mt.xZ p i=(zA3 p (i+1) 1 (-1),0):=by
 have r:Mt.kJ p i=(⟨8,i,(Mt.xW p (i+1)).2,1,-1,(Mt.xW p (i+1)).1,[]⟩,true):=by unfold Mt.kJ;rw [if_pos h]
 have e:Mt.kK p i=((Mt.kJ p i).1,if (Mt.kJ p i).2 then 0 else 4):=by unfold Mt.kK;rw [if_neg (by omega),if_neg (by omega),if_neg (by omega),if_neg (by omega),if_neg (by omega),if_neg (by omega),if_neg (by omega),if_pos (by omega)]
 unfold Mt.xZ;rw [e,r];rfl
theorem zPq (p:ByteArray) (i:Int) (h:Mt.atB p i=63):Mt.xZ p i=(zA3 p (i+1) 0 1,0):=by
 have r:Mt.kJ p i=(⟨8,i,(Mt.xW p (i+1)).2,0,1,(Mt.xW p (i+1)).1,[]⟩,true):=by unfold Mt.kJ;rw [if_neg (by omega),if_pos h]
 have e:Mt.kK p i=((Mt.kJ p i).1,if (Mt.kJ p i).2 then 0 else 4):=by unfold Mt.kK;rw [if_neg (by omega),if_neg (by omega),if_neg (by omega),if_neg (by omega),if_neg (by omega),if_neg (by omega),if_neg (by omega),if_pos (by omega)]
 unfold Mt.xZ;rw [e,r];rfl
theorem zPr (p:ByteArray) (i:Int) (h:Mt.atB p i=123):Mt.xZ p i=coP p i:=by
 have e:Mt.kK p i=((Mt.kJ p i).1,if (Mt.kJ p i).2 then 0 else 4):=by unfold Mt.kK;rw [if_neg (by omega),if_neg (by omega),if_neg (by omega),if_neg (by omega),if_neg (by omega),if_neg (by omega),if_neg (by omega),if_pos (by omega)]
 unfold Mt.xZ coP
 cases hc:(Mt.count p i).2.2.2
 ·have r:Mt.kJ p i=(⟨8,i,i+1,0,-1,0,[]⟩,false):=by unfold Mt.kJ;rw [if_neg (by omega),if_neg (by omega),if_pos h,hc];rfl
  rw [e,r];rfl
 ·have r:Mt.kJ p i=(⟨8,i,(Mt.xW p (Mt.count p i).2.2.1).2,(Mt.count p i).1,(Mt.count p i).2.1,(Mt.xW p (Mt.count p i).2.2.1).1,[]⟩,true):=by unfold Mt.kJ;rw [if_neg (by omega),if_neg (by omega),if_pos h,hc];rfl
  rw [e,r];rfl
theorem zSe (p:ByteArray) (i:Int) (h:Mt.atB p i=46):Mt.xZ p i=(⟨5,i+1,0,0,0,0,0,Mt.qL (Mt.zAF Mt.none0 0 255) 256⟩,0):=by
 have e:Mt.kK p i=(⟨1,i,i+1,0,0,0,Mt.all p i i true⟩,0):=by unfold Mt.kK;rw [if_neg (by omega),if_neg (by omega),if_neg (by omega),if_neg (by omega),if_neg (by omega),if_neg (by omega),if_neg (by omega),if_neg (by omega),if_pos h]
 rw [Mt.zQN p i];unfold Mt.xZ;rw [e];rfl
theorem zQ2 (p:ByteArray) (i:Int) (h0:0≤Mt.atB p i) (h1:Mt.atB p i≤255) (h:¬ (Mt.atB p i=124∨Mt.atB p i=41∨Mt.atB p i=94∨Mt.atB p i=36∨Mt.atB p i=92∨Mt.atB p i=91∨Mt.atB p i=40∨Mt.atB p i=42∨Mt.atB p i=43∨Mt.atB p i=63∨Mt.atB p i=123∨Mt.atB p i=46)) :
  Mt.xZ p i=(⟨5,i+1,0,0,0,0,0,Mt.qL (Mt.zAF Mt.none0 (Mt.atB p i) (Mt.atB p i)) 256⟩,0):=by
 have e:Mt.kK p i=(⟨1,i,i+1,0,0,0,[UInt8.ofNat (Mt.atB p i).toNat]⟩,0):=by unfold Mt.kK;rw [if_neg (by omega),if_neg (by omega),if_neg (by omega),if_neg (by omega),if_neg (by omega),if_neg (by omega),if_neg (by omega),if_neg (by omega),if_neg (by omega)]
 rw [Mt.zM6 _ h0 h1];unfold Mt.xZ;rw [e];rfl
theorem zPs (p:ByteArray) (i:Int) (w:World) (hp:p.size≤64) (hi0:0≤i) (hi1:i≤100) (a0:(Mt.atB p i==-1)=false) (b:(Mt.atB p i==124)=true) :
  Calls Tryz.prog 55 #[.string p,.int .i64 i] w fun e w'=>e=.returned (.tuple #[ptV ((⟨1,i+1,0,0,0,0,0,[]⟩,0):Mt.PT × Int).1,.int .i64 ((⟨1,i+1,0,0,0,0,0,[]⟩,0):Mt.PT × Int).2])∧Below w.heap.size w w':=by
 go_enter Tryz.func55,Tryz.ntmps55
 go_wp2_with (go_at_call 84;refine (zQ _ _ _ hp).mono ?_;rintro e w' ⟨rfl,rfl⟩)
 go_returns
 exact ⟨rfl,by go_grown⟩
theorem zLE (p:ByteArray) (i:Int) (w:World) (hp:p.size≤64) (hi0:0≤i) (hi1:i≤100) (a0:(Mt.atB p i==-1)=false) (a1:(Mt.atB p i==124)=false) (a2:(Mt.atB p i==40)=false) (b:(Mt.atB p i==41)=true) :
  Calls Tryz.prog 55 #[.string p,.int .i64 i] w fun e w'=>e=.returned (.tuple #[ptV ((⟨3,i+1,0,0,0,0,0,[]⟩,0):Mt.PT × Int).1,.int .i64 ((⟨3,i+1,0,0,0,0,0,[]⟩,0):Mt.PT × Int).2])∧Below w.heap.size w w':=by
 go_enter Tryz.func55,Tryz.ntmps55
 go_wp2_with (go_at_call 84;refine (zQ _ _ _ hp).mono ?_;rintro e w' ⟨rfl,rfl⟩)
 go_returns
 exact ⟨rfl,by go_grown⟩
theorem zNq (p:ByteArray) (i:Int) (w:World) (hp:p.size≤64) (hi0:0≤i) (hi1:i≤100) (a0:(Mt.atB p i==-1)=false) (a1:(Mt.atB p i==124)=false) (a2:(Mt.atB p i==40)=false) (a3:(Mt.atB p i==41)=false) (a4:(Mt.atB p i==42)=false) (a5:(Mt.atB p i==43)=false) (a6:(Mt.atB p i==63)=false) (a7:(Mt.atB p i==123)=false) (b:(Mt.atB p i==94)=true) :
  Calls Tryz.prog 55 #[.string p,.int .i64 i] w fun e w'=>e=.returned (.tuple #[ptV ((⟨7,i+1,0,0,0,0,0,[]⟩,0):Mt.PT × Int).1,.int .i64 ((⟨7,i+1,0,0,0,0,0,[]⟩,0):Mt.PT × Int).2])∧Below w.heap.size w w':=by
 go_enter Tryz.func55,Tryz.ntmps55
 go_wp2_with (go_at_call 84;refine (zQ _ _ _ hp).mono ?_;rintro e w' ⟨rfl,rfl⟩)
 go_returns
 exact ⟨rfl,by go_grown⟩
theorem zNr (p:ByteArray) (i:Int) (w:World) (hp:p.size≤64) (hi0:0≤i) (hi1:i≤100) (a0:(Mt.atB p i==-1)=false) (a1:(Mt.atB p i==124)=false) (a2:(Mt.atB p i==40)=false) (a3:(Mt.atB p i==41)=false) (a4:(Mt.atB p i==42)=false) (a5:(Mt.atB p i==43)=false) (a6:(Mt.atB p i==63)=false) (a7:(Mt.atB p i==123)=false) (a8:(Mt.atB p i==94)=false) (b:(Mt.atB p i==36)=true) :
  Calls Tryz.prog 55 #[.string p,.int .i64 i] w fun e w'=>e=.returned (.tuple #[ptV ((⟨8,i+1,0,0,0,0,0,[]⟩,0):Mt.PT × Int).1,.int .i64 ((⟨8,i+1,0,0,0,0,0,[]⟩,0):Mt.PT × Int).2])∧Below w.heap.size w w':=by
 go_enter Tryz.func55,Tryz.ntmps55
 go_wp2_with (go_at_call 84;refine (zQ _ _ _ hp).mono ?_;rintro e w' ⟨rfl,rfl⟩)
 go_returns
 exact ⟨rfl,by go_grown⟩
theorem zPt (p:ByteArray) (i:Int) (w:World) (hp:p.size≤64) (hi0:0≤i) (hi1:i≤100) (a0:(Mt.atB p i==-1)=false) (a1:(Mt.atB p i==124)=false) (a2:(Mt.atB p i==40)=false) (a3:(Mt.atB p i==41)=false) (a4:(Mt.atB p i==42)=false) (a5:(Mt.atB p i==43)=false) (a6:(Mt.atB p i==63)=false) (a7:(Mt.atB p i==123)=false) (a8:(Mt.atB p i==94)=false) (a9:(Mt.atB p i==36)=false) (a10:(Mt.atB p i==46)=false) (a11:(Mt.atB p i==91)=false) (b:(Mt.atB p i==92)=true) :
  Calls Tryz.prog 55 #[.string p,.int .i64 i] w fun e w'=>e=.returned (.tuple #[ptV (esP p i).1,.int .i64 (esP p i).2])∧Below w.heap.size w w':=by
 have TA:=zGc p i (w.alloc (.cells (ptA Mt.pt0) 100)) hp hi0 hi1 (by simpa using b)
 generalize esP p i=R at *
 have HT:Hid (Calls Tryz.prog _ _ _ _):=TA
 clear TA
 go_enter Tryz.func55,Tryz.ntmps55
 go_wp2_with (go_at_call 84;refine (zQ _ _ _ hp).mono ?_;rintro e w' ⟨rfl,rfl⟩)
 refine HT.out.mono ?_
 rintro e w2 ⟨rfl,b2⟩
 have HZ:Hid (w2.heap[w.heap.size]?=some (.cells (ptA Mt.pt0) 100 (0,0))∧Below w.heap.size w w2):=⟨(b2.block _ (by simp)).trans (kX w _),((Below.refl _ _).alloc (Nat.le_refl _) _).trans (b2.mono (by simp))⟩
 clear b2
 go_wp2_with (refine zK 100 8 Tryz.sizePT (by rfl) (.tmp 4) (.tmp 83) (by rfl) w.heap.size (ptA R.1) (by rfl) (by rfl) HZ.out.1 (by rfl) (by rfl) (yX _) ?_;intro w3 r1 r2 r3 r4)
 refine bodyPost_ret (kW 100 8 Tryz.underlying100 rfl Tryz.sizePT rfl (by rfl) r1 (by rfl)) rfl ⟨rfl,?_⟩
 exact HZ.out.2.trans (r4 _ (Nat.le_refl _))
theorem zLF (p:ByteArray) (i:Int) (w:World) (hp:p.size≤64) (hi0:0≤i) (hi1:i≤100) (a0:(Mt.atB p i==-1)=false) (a1:(Mt.atB p i==124)=false) (a2:(Mt.atB p i==40)=false) (a3:(Mt.atB p i==41)=false) (a4:(Mt.atB p i==42)=false) (a5:(Mt.atB p i==43)=false) (a6:(Mt.atB p i==63)=false) (a7:(Mt.atB p i==123)=false) (a8:(Mt.atB p i==94)=false) (a9:(Mt.atB p i==36)=false) (a10:(Mt.atB p i==46)=false) (b:(Mt.atB p i==91)=true) :
  Calls Tryz.prog 55 #[.string p,.int .i64 i] w fun e w'=>e=.returned (.tuple #[ptV (clP p i).1,.int .i64 (clP p i).2])∧Below w.heap.size w w':=by
 have TA:=zHk p i (w.alloc (.cells (ptA Mt.pt0) 100)) hp hi0 hi1
 generalize clP p i=R at *
 have HT:Hid (Calls Tryz.prog _ _ _ _):=TA
 clear TA
 go_enter Tryz.func55,Tryz.ntmps55
 go_wp2_with (go_at_call 84;refine (zQ _ _ _ hp).mono ?_;rintro e w' ⟨rfl,rfl⟩)
 refine HT.out.mono ?_
 rintro e w2 ⟨rfl,b2⟩
 have HZ:Hid (w2.heap[w.heap.size]?=some (.cells (ptA Mt.pt0) 100 (0,0))∧Below w.heap.size w w2):=⟨(b2.block _ (by simp)).trans (kX w _),((Below.refl _ _).alloc (Nat.le_refl _) _).trans (b2.mono (by simp))⟩
 clear b2
 go_wp2_with (refine zK 100 8 Tryz.sizePT (by rfl) (.tmp 4) (.tmp 76) (by rfl) w.heap.size (ptA R.1) (by rfl) (by rfl) HZ.out.1 (by rfl) (by rfl) (yX _) ?_;intro w3 r1 r2 r3 r4)
 refine bodyPost_ret (kW 100 8 Tryz.underlying100 rfl Tryz.sizePT rfl (by rfl) r1 (by rfl)) rfl ⟨rfl,?_⟩
 exact HZ.out.2.trans (r4 _ (Nat.le_refl _))
theorem zNs (p:ByteArray) (i:Int) (w:World) (hp:p.size≤64) (hi0:0≤i) (hi1:i≤100) (a0:(Mt.atB p i==-1)=false) (a1:(Mt.atB p i==124)=false) (b:(Mt.atB p i==40)=true) :
  Calls Tryz.prog 55 #[.string p,.int .i64 i] w fun e w'=>e=.returned (.tuple #[ptV (opP p i).1,.int .i64 (opP p i).2])∧Below w.heap.size w w':=by
 have TA:=zFE p i (w.alloc (.cells (ptA Mt.pt0) 100)) hp hi0 hi1
 generalize opP p i=R at *
 have HT:Hid (Calls Tryz.prog _ _ _ _):=TA
 clear TA
 go_enter Tryz.func55,Tryz.ntmps55
 go_wp2_with (go_at_call 84;refine (zQ _ _ _ hp).mono ?_;rintro e w' ⟨rfl,rfl⟩)
 refine HT.out.mono ?_
 rintro e w2 ⟨rfl,b2⟩
 have HZ:Hid (w2.heap[w.heap.size]?=some (.cells (ptA Mt.pt0) 100 (0,0))∧Below w.heap.size w w2):=⟨(b2.block _ (by simp)).trans (kX w _),((Below.refl _ _).alloc (Nat.le_refl _) _).trans (b2.mono (by simp))⟩
 clear b2
 go_wp2_with (refine zK 100 8 Tryz.sizePT (by rfl) (.tmp 4) (.tmp 24) (by rfl) w.heap.size (ptA R.1) (by rfl) (by rfl) HZ.out.1 (by rfl) (by rfl) (yX _) ?_;intro w3 r1 r2 r3 r4)
 refine bodyPost_ret (kW 100 8 Tryz.underlying100 rfl Tryz.sizePT rfl (by rfl) r1 (by rfl)) rfl ⟨rfl,?_⟩
 exact HZ.out.2.trans (r4 _ (Nat.le_refl _))
theorem zLG (p:ByteArray) (i:Int) (w:World) (hp:p.size≤64) (hi0:0≤i) (hi1:i≤100) (a0:(Mt.atB p i==-1)=false) (a1:(Mt.atB p i==124)=false) (a2:(Mt.atB p i==40)=false) (a3:(Mt.atB p i==41)=false) (a4:(Mt.atB p i==42)=false) (a5:(Mt.atB p i==43)=false) (a6:(Mt.atB p i==63)=false) (b:(Mt.atB p i==123)=true) :
  Calls Tryz.prog 55 #[.string p,.int .i64 i] w fun e w'=>e=.returned (.tuple #[ptV (coP p i).1,.int .i64 (coP p i).2])∧Below w.heap.size w w':=by
 have TA:=zHl p i (w.alloc (.cells (ptA Mt.pt0) 100)) hp hi0 hi1
 generalize coP p i=R at *
 have HT:Hid (Calls Tryz.prog _ _ _ _):=TA
 clear TA
 go_enter Tryz.func55,Tryz.ntmps55
 go_wp2_with (go_at_call 84;refine (zQ _ _ _ hp).mono ?_;rintro e w' ⟨rfl,rfl⟩)
 refine HT.out.mono ?_
 rintro e w2 ⟨rfl,b2⟩
 have HZ:Hid (w2.heap[w.heap.size]?=some (.cells (ptA Mt.pt0) 100 (0,0))∧Below w.heap.size w w2):=⟨(b2.block _ (by simp)).trans (kX w _),((Below.refl _ _).alloc (Nat.le_refl _) _).trans (b2.mono (by simp))⟩
 clear b2
 go_wp2_with (refine zK 100 8 Tryz.sizePT (by rfl) (.tmp 4) (.tmp 54) (by rfl) w.heap.size (ptA R.1) (by rfl) (by rfl) HZ.out.1 (by rfl) (by rfl) (yX _) ?_;intro w3 r1 r2 r3 r4)
 refine bodyPost_ret (kW 100 8 Tryz.underlying100 rfl Tryz.sizePT rfl (by rfl) r1 (by rfl)) rfl ⟨rfl,?_⟩
 exact HZ.out.2.trans (r4 _ (Nat.le_refl _))
theorem zNt (p:ByteArray) (i:Int) (w:World) (hp:p.size≤64) (hi0:0≤i) (hi1:i≤100) (a0:(Mt.atB p i==-1)=false) (a1:(Mt.atB p i==124)=false) (a2:(Mt.atB p i==40)=false) (a3:(Mt.atB p i==41)=false) (b:(Mt.atB p i==42)=true) :
  Calls Tryz.prog 55 #[.string p,.int .i64 i] w fun e w'=>e=.returned (.tuple #[ptV ((zA3 p (i+1) 0 (-1),0):Mt.PT × Int).1,.int .i64 ((zA3 p (i+1) 0 (-1),0):Mt.PT × Int).2])∧Below w.heap.size w w':=by
 have TA:=zAW p (i+1) 0 (-1) (w.alloc (.cells (ptA Mt.pt0) 100)) hp (by omega) (by omega)
 generalize zA3 p (i+1) 0 (-1)=R at *
 have HT:Hid (Calls Tryz.prog _ _ _ _):=TA
 clear TA
 go_enter Tryz.func55,Tryz.ntmps55
 go_wp2_with (go_at_call 84;refine (zQ _ _ _ hp).mono ?_;rintro e w' ⟨rfl,rfl⟩)
 refine HT.out.mono ?_
 rintro e w2 ⟨rfl,b2⟩
 have HZ:Hid (w2.heap[w.heap.size]?=some (.cells (ptA Mt.pt0) 100 (0,0))∧Below w.heap.size w w2):=⟨(b2.block _ (by simp)).trans (kX w _),((Below.refl _ _).alloc (Nat.le_refl _) _).trans (b2.mono (by simp))⟩
 clear b2
 go_wp2_with (refine zK 100 8 Tryz.sizePT (by rfl) (.tmp 4) (.tmp 36) (by rfl) w.heap.size (ptA R) (by rfl) (by rfl) HZ.out.1 (by rfl) (by rfl) (yX _) ?_;intro w3 r1 r2 r3 r4)
 refine bodyPost_ret (kW 100 8 Tryz.underlying100 rfl Tryz.sizePT rfl (by rfl) r1 (by rfl)) rfl ⟨rfl,?_⟩
 exact HZ.out.2.trans (r4 _ (Nat.le_refl _))
theorem zNu (p:ByteArray) (i:Int) (w:World) (hp:p.size≤64) (hi0:0≤i) (hi1:i≤100) (a0:(Mt.atB p i==-1)=false) (a1:(Mt.atB p i==124)=false) (a2:(Mt.atB p i==40)=false) (a3:(Mt.atB p i==41)=false) (a4:(Mt.atB p i==42)=false) (b:(Mt.atB p i==43)=true) :
  Calls Tryz.prog 55 #[.string p,.int .i64 i] w fun e w'=>e=.returned (.tuple #[ptV ((zA3 p (i+1) 1 (-1),0):Mt.PT × Int).1,.int .i64 ((zA3 p (i+1) 1 (-1),0):Mt.PT × Int).2])∧Below w.heap.size w w':=by
 have TA:=zAW p (i+1) 1 (-1) (w.alloc (.cells (ptA Mt.pt0) 100)) hp (by omega) (by omega)
 generalize zA3 p (i+1) 1 (-1)=R at *
 have HT:Hid (Calls Tryz.prog _ _ _ _):=TA
 clear TA
 go_enter Tryz.func55,Tryz.ntmps55
 go_wp2_with (go_at_call 84;refine (zQ _ _ _ hp).mono ?_;rintro e w' ⟨rfl,rfl⟩)
 refine HT.out.mono ?_
 rintro e w2 ⟨rfl,b2⟩
 have HZ:Hid (w2.heap[w.heap.size]?=some (.cells (ptA Mt.pt0) 100 (0,0))∧Below w.heap.size w w2):=⟨(b2.block _ (by simp)).trans (kX w _),((Below.refl _ _).alloc (Nat.le_refl _) _).trans (b2.mono (by simp))⟩
 clear b2
 go_wp2_with (refine zK 100 8 Tryz.sizePT (by rfl) (.tmp 4) (.tmp 42) (by rfl) w.heap.size (ptA R) (by rfl) (by rfl) HZ.out.1 (by rfl) (by rfl) (yX _) ?_;intro w3 r1 r2 r3 r4)
 refine bodyPost_ret (kW 100 8 Tryz.underlying100 rfl Tryz.sizePT rfl (by rfl) r1 (by rfl)) rfl ⟨rfl,?_⟩
 exact HZ.out.2.trans (r4 _ (Nat.le_refl _))
theorem zLH (p:ByteArray) (i:Int) (w:World) (hp:p.size≤64) (hi0:0≤i) (hi1:i≤100) (a0:(Mt.atB p i==-1)=false) (a1:(Mt.atB p i==124)=false) (a2:(Mt.atB p i==40)=false) (a3:(Mt.atB p i==41)=false) (a4:(Mt.atB p i==42)=false) (a5:(Mt.atB p i==43)=false) (b:(Mt.atB p i==63)=true) :
  Calls Tryz.prog 55 #[.string p,.int .i64 i] w fun e w'=>e=.returned (.tuple #[ptV ((zA3 p (i+1) 0 1,0):Mt.PT × Int).1,.int .i64 ((zA3 p (i+1) 0 1,0):Mt.PT × Int).2])∧Below w.heap.size w w':=by
 have TA:=zAW p (i+1) 0 1 (w.alloc (.cells (ptA Mt.pt0) 100)) hp (by omega) (by omega)
 generalize zA3 p (i+1) 0 1=R at *
 have HT:Hid (Calls Tryz.prog _ _ _ _):=TA
 clear TA
 go_enter Tryz.func55,Tryz.ntmps55
 go_wp2_with (go_at_call 84;refine (zQ _ _ _ hp).mono ?_;rintro e w' ⟨rfl,rfl⟩)
 refine HT.out.mono ?_
 rintro e w2 ⟨rfl,b2⟩
 have HZ:Hid (w2.heap[w.heap.size]?=some (.cells (ptA Mt.pt0) 100 (0,0))∧Below w.heap.size w w2):=⟨(b2.block _ (by simp)).trans (kX w _),((Below.refl _ _).alloc (Nat.le_refl _) _).trans (b2.mono (by simp))⟩
 clear b2
 go_wp2_with (refine zK 100 8 Tryz.sizePT (by rfl) (.tmp 4) (.tmp 48) (by rfl) w.heap.size (ptA R) (by rfl) (by rfl) HZ.out.1 (by rfl) (by rfl) (yX _) ?_;intro w3 r1 r2 r3 r4)
 refine bodyPost_ret (kW 100 8 Tryz.underlying100 rfl Tryz.sizePT rfl (by rfl) r1 (by rfl)) rfl ⟨rfl,?_⟩
 exact HZ.out.2.trans (r4 _ (Nat.le_refl _))
theorem zPu (p:ByteArray) (i:Int) (w:World) (hp:p.size≤64) (hi0:0≤i) (hi1:i≤100) (a0:(Mt.atB p i==-1)=false) (a1:(Mt.atB p i==124)=false) (a2:(Mt.atB p i==40)=false) (a3:(Mt.atB p i==41)=false) (a4:(Mt.atB p i==42)=false) (a5:(Mt.atB p i==43)=false) (a6:(Mt.atB p i==63)=false) (a7:(Mt.atB p i==123)=false) (a8:(Mt.atB p i==94)=false) (a9:(Mt.atB p i==36)=false) (b:(Mt.atB p i==46)=true) :
  Calls Tryz.prog 55 #[.string p,.int .i64 i] w fun e w'=>e=.returned (.tuple #[ptV ((⟨5,i+1,0,0,0,0,0,Mt.qL (Mt.zAF Mt.none0 0 255) 256⟩,0):Mt.PT × Int).1,.int .i64 ((⟨5,i+1,0,0,0,0,0,Mt.qL (Mt.zAF Mt.none0 0 255) 256⟩,0):Mt.PT × Int).2])∧Below w.heap.size w w':=by
 have TA:=zFC (w.alloc (.cells (ptA Mt.pt0) 100)) 0 255 (i+1)
 generalize Mt.qL (Mt.zAF Mt.none0 0 255) 256=R at *
 have HT:Hid (Calls Tryz.prog _ _ _ _):=TA
 clear TA
 go_enter Tryz.func55,Tryz.ntmps55
 go_wp2_with (go_at_call 84;refine (zQ _ _ _ hp).mono ?_;rintro e w' ⟨rfl,rfl⟩)
 refine HT.out.mono ?_
 rintro e w2 ⟨rfl,b2⟩
 have HZ:Hid (w2.heap[w.heap.size]?=some (.cells (ptA Mt.pt0) 100 (0,0))∧Below w.heap.size w w2):=⟨(b2.block _ (by simp)).trans (kX w _),((Below.refl _ _).alloc (Nat.le_refl _) _).trans (b2.mono (by simp))⟩
 clear b2
 go_wp2_with (refine zK 100 8 Tryz.sizePT (by rfl) (.tmp 4) (.tmp 70) (by rfl) w.heap.size (ptA ⟨5,i+1,0,0,0,0,0,R⟩) (by rfl) (by rfl) HZ.out.1 (by rfl) (by rfl) (yX _) ?_;intro w3 r1 r2 r3 r4)
 refine bodyPost_ret (kW 100 8 Tryz.underlying100 rfl Tryz.sizePT rfl (by rfl) r1 (by rfl)) rfl ⟨rfl,?_⟩
 exact HZ.out.2.trans (r4 _ (Nat.le_refl _))
theorem zNv (p:ByteArray) (i:Int) (w:World) (hp:p.size≤64) (hi0:0≤i) (hi1:i≤100) (a0:(Mt.atB p i==-1)=false) (a1:(Mt.atB p i==124)=false) (a2:(Mt.atB p i==40)=false) (a3:(Mt.atB p i==41)=false) (a4:(Mt.atB p i==42)=false) (a5:(Mt.atB p i==43)=false) (a6:(Mt.atB p i==63)=false) (a7:(Mt.atB p i==123)=false) (a8:(Mt.atB p i==94)=false) (a9:(Mt.atB p i==36)=false) (a10:(Mt.atB p i==46)=false) (a11:(Mt.atB p i==91)=false) (a12:(Mt.atB p i==92)=false) :
  Calls Tryz.prog 55 #[.string p,.int .i64 i] w fun e w'=>e=.returned (.tuple #[ptV ((⟨5,i+1,0,0,0,0,0,Mt.qL (Mt.zAF Mt.none0 (Mt.atB p i) (Mt.atB p i)) 256⟩,0):Mt.PT × Int).1,.int .i64 ((⟨5,i+1,0,0,0,0,0,Mt.qL (Mt.zAF Mt.none0 (Mt.atB p i) (Mt.atB p i)) 256⟩,0):Mt.PT × Int).2])∧Below w.heap.size w w':=by
 have TA:=zFC (w.alloc (.cells (ptA Mt.pt0) 100)) (Mt.atB p i) (Mt.atB p i) (i+1)
 generalize Mt.qL (Mt.zAF Mt.none0 (Mt.atB p i) (Mt.atB p i)) 256=R at *
 have HT:Hid (Calls Tryz.prog _ _ _ _):=TA
 clear TA
 go_enter Tryz.func55,Tryz.ntmps55
 go_wp2_with (go_at_call 84;refine (zQ _ _ _ hp).mono ?_;rintro e w' ⟨rfl,rfl⟩)
 refine HT.out.mono ?_
 rintro e w2 ⟨rfl,b2⟩
 have HZ:Hid (w2.heap[w.heap.size]?=some (.cells (ptA Mt.pt0) 100 (0,0))∧Below w.heap.size w w2):=⟨(b2.block _ (by simp)).trans (kX w _),((Below.refl _ _).alloc (Nat.le_refl _) _).trans (b2.mono (by simp))⟩
 clear b2
 go_wp2_with (refine zK 100 8 Tryz.sizePT (by rfl) (.tmp 4) (.tmp 89) (by rfl) w.heap.size (ptA ⟨5,i+1,0,0,0,0,0,R⟩) (by rfl) (by rfl) HZ.out.1 (by rfl) (by rfl) (yX _) ?_;intro w3 r1 r2 r3 r4)
 refine bodyPost_ret (kW 100 8 Tryz.underlying100 rfl Tryz.sizePT rfl (by rfl) r1 (by rfl)) rfl ⟨rfl,?_⟩
 exact HZ.out.2.trans (r4 _ (Nat.le_refl _))
theorem zPv (p:ByteArray) (i:Int) (w:World) (hp:p.size≤64) (hi0:0≤i) (hi1:i<(p.size:Int)) :
  Calls Tryz.prog 55 #[.string p,.int .i64 i] w fun e w'=>e=.returned (.tuple #[ptV (Mt.xZ p i).1,.int .i64 (Mt.xZ p i).2])∧Below w.heap.size w w':=by
 have l1:=Mt.zEi p i
 have l0:0≤Mt.atB p i:=by rw [Mt.zP1 p i hi0 hi1];omega
 have yes:∀ q:Int,Mt.atB p i=q→(Mt.atB p i==q)=true:=fun q h=>by simpa using h
 have no:∀ q:Int,¬ Mt.atB p i=q→(Mt.atB p i==q)=false:=fun q h=>by simpa using h
 have hi2:i≤100:=by omega
 by_cases zKG:Mt.atB p i=124
 ·rw [zSc p i zKG];exact zPs p i w hp hi0 hi2 (no (-1) (by omega)) (yes _ zKG)
 by_cases h40:Mt.atB p i=40
 ·rw [zQZ p i h40];exact zNs p i w hp hi0 hi2 (no (-1) (by omega)) (no _ zKG) (yes _ h40)
 by_cases h41:Mt.atB p i=41
 ·rw [zPo p i h41];exact zLE p i w hp hi0 hi2 (no (-1) (by omega)) (no _ zKG) (no _ h40) (yes _ h41)
 by_cases h42:Mt.atB p i=42
 ·rw [zQ0 p i h42];exact zNt p i w hp hi0 hi2 (no (-1) (by omega)) (no _ zKG) (no _ h40) (no _ h41) (yes _ h42)
 by_cases h43:Mt.atB p i=43
 ·rw [zQ1 p i h43];exact zNu p i w hp hi0 hi2 (no (-1) (by omega)) (no _ zKG) (no _ h40) (no _ h41) (no _ h42) (yes _ h43)
 by_cases h63:Mt.atB p i=63
 ·rw [zPq p i h63];exact zLH p i w hp hi0 hi2 (no (-1) (by omega)) (no _ zKG) (no _ h40) (no _ h41) (no _ h42) (no _ h43) (yes _ h63)
 by_cases zQe:Mt.atB p i=123
 ·rw [zPr p i zQe];exact zLG p i w hp hi0 hi2 (no (-1) (by omega)) (no _ zKG) (no _ h40) (no _ h41) (no _ h42) (no _ h43) (no _ h63) (yes _ zQe)
 by_cases h94:Mt.atB p i=94
 ·rw [zQX p i h94];exact zNq p i w hp hi0 hi2 (no (-1) (by omega)) (no _ zKG) (no _ h40) (no _ h41) (no _ h42) (no _ h43) (no _ h63) (no _ zQe) (yes _ h94)
 by_cases h36:Mt.atB p i=36
 ·rw [zQY p i h36];exact zNr p i w hp hi0 hi2 (no (-1) (by omega)) (no _ zKG) (no _ h40) (no _ h41) (no _ h42) (no _ h43) (no _ h63) (no _ zQe) (no _ h94) (yes _ h36)
 by_cases h46:Mt.atB p i=46
 ·rw [zSe p i h46];exact zPu p i w hp hi0 hi2 (no (-1) (by omega)) (no _ zKG) (no _ h40) (no _ h41) (no _ h42) (no _ h43) (no _ h63) (no _ zQe) (no _ h94) (no _ h36) (yes _ h46)
 by_cases h91:Mt.atB p i=91
 ·rw [zPp p i h91];exact zLF p i w hp hi0 hi2 (no (-1) (by omega)) (no _ zKG) (no _ h40) (no _ h41) (no _ h42) (no _ h43) (no _ h63) (no _ zQe) (no _ h94) (no _ h36) (no _ h46) (yes _ h91)
 by_cases h92:Mt.atB p i=92
 ·rw [zSd p i h92];exact zPt p i w hp hi0 hi2 (no (-1) (by omega)) (no _ zKG) (no _ h40) (no _ h41) (no _ h42) (no _ h43) (no _ h63) (no _ zQe) (no _ h94) (no _ h36) (no _ h46) (no _ h91) (yes _ h92)
 rw [zQ2 p i l0 l1 (by omega)]
 exact zNv p i w hp hi0 hi2 (no (-1) (by omega)) (no _ zKG) (no _ h40) (no _ h41) (no _ h42) (no _ h43) (no _ h63) (no _ zQe) (no _ h94) (no _ h36) (no _ h46) (no _ h91) (no _ h92)
end Go.Proofs.YtebpgfodelggoabGreat
