import Derived.Test.YtebpgfodelggoabGreatC03
set_option linter.unusedVariables false
set_option linter.unusedSimpArgs false
namespace Mt
theorem zER (p:ByteArray) (t:Int):0≤(xW p t).1∧(xW p t).1≤2:=by
 unfold xW
 split
 ·simp
 ·split <;> simp
theorem zKl (p:ByteArray) (i:Int):0≤(count p i).1∧(count p i).1≤20∧-1≤(count p i).2.1∧(count p i).2.1≤20:=by
 have b1:=vY p (i+1)
 have b2:=vY p (i+1+(number p (i+1)).2+1)
 unfold count
 split
 ·simp
 ·split
  ·simp only;omega
  ·split
   ·simp
   ·split
    ·simp only;omega
    ·split
     ·simp
     ·simp only;omega
theorem zMA (p:ByteArray) (i:Int):xX (kJ p i).1:=by
 have m1:=zER p (i+1)
 have m2:=zER p (count p i).2.2.1
 have c:=zKl p i
 unfold kJ
 split
 ·simp only [xX];omega
 ·split
  ·simp only [xX];omega
  ·split
   ·split
    ·simp only [xX];omega
    ·simp [xX]
   ·simp only [xX];omega
theorem zMB (p:ByteArray) (i:Int):xX (escape p i).1:=by
 unfold escape
 split
 ·simp [xX]
 ·split
  ·simp [xX]
  ·split
   ·simp only [xX];omega
   ·simp [xX]
theorem zLe (p:ByteArray) (i:Int):xX (opening p i).1:=by
 unfold opening
 split
 ·simp [xX]
 ·split
  ·simp [xX]
  ·split
   ·simp [xX]
   ·split
    ·simp [xX]
    ·split <;> simp [xX]
theorem zOF (p:ByteArray) (i:Int):xX (jN p i).1:=by
 unfold jN
 split <;> simp [xX]
theorem zQs (p:ByteArray) (i:Int):xX (kK p i).1:=by
 unfold kK
 split
 ·simp [xX]
 split
 ·simp [xX]
 split
 ·simp [xX]
 split
 ·simp [xX]
 split
 ·exact zMB p i
 split
 ·exact zOF p i
 split
 ·exact zLe p i
 split
 ·exact zMA p i
 split
 ·simp [xX]
 ·simp [xX]
theorem zMC {l:List Tok} {t:Tok} (h:xX t) (hl:l.length≤64):xX (joined l t):=by
 unfold joined
 split
 ·rename_i hc
  have hk:t.kind=6:=by simp [kP] at hc;exact hc.1
  have:=zAd l
  simp only [xX] at *
  omega
 ·exact h
theorem zMD (p:ByteArray) (hp:p.size≤64):∀ (f:Nat) (l:List Tok) (i:Int),0≤i→i≤p.size→(p.size:Int)-i<f→zAv l→(l.length:Int)≤i→zAv (qD p l i).1∧((qD p l i).1.length:Int)≤p.size:=by
 intro f
 induction f with
 | zero=>intro l i h0 h1 h2;omega
 | succ f ih =>
  intro l i h0 h1 h2 hl hn
  rw [vH p l i h0 h1]
  split
  ·exact ⟨hl,by simp only;omega⟩
  ·split
   ·exact ⟨by simp [zAv],by simp⟩
   ·split
    ·exact ⟨by simp [zAv],by simp⟩
    ·rename_i a b c
     have ht:=zBR p i h0 (by omega) (by omega)
     refine ih _ _ (by omega) (by omega) (by omega) ?_ ?_
     ·intro t hm
      rcases List.mem_append.1 hm with hm | hm
      ·exact hl t hm
      ·simp at hm;rw [hm];exact zMC (zQs p i) (by omega)
     ·rw [List.length_append];simp;omega
theorem zAj (p:ByteArray):zAv (tokens p).1∧(tokens p).1.length≤64:=by
 unfold tokens
 split
 ·exact ⟨by simp [zAv],by simp⟩
 ·rename_i hp
  have h:=zMD p (by omega) ((p.size:Int)+1).toNat [] 0 (by omega) (by omega) (by omega) (by simp [zAv]) (by simp)
  rw [vF p (by omega)]
  split
  ·exact ⟨h.1,by have:=h.2;omega⟩
  ·split
   ·exact ⟨by simp [zAv],by simp⟩
   ·exact ⟨h.1,by have:=h.2;simp only;omega⟩
def jQ (p:ByteArray):Int × Int :=
 if (tokens p).2.1≠0 then (tokens p).2
 else if 300<(coded (tokens p).1).length then (12,0)
 else (0,0)
end Mt
