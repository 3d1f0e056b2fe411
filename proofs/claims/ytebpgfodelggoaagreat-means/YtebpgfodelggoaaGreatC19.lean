import Derived.Test.YtebpgfodelggoaaGreatC18
set_option linter.all false
set_option maxHeartbeats 1000000
namespace Go.Proofs.YtebpgfodelggoaaGreat
open Go.RowKit _root_.Go.Proofs.Tryz Mt
theorem Jv(w:World) b(G:b=w.heap.size)(xs:List Value) h:∀j u,xs[j]?=some u->(w.alloc (.cells xs.toArray h)).cell? ((⟨b,0,none⟩:Addr).add j)=some u:=by
 subst G;exact fJ w xs h
theorem EW(w:World) a u:w.grownBy (w.setCell a u) (some a.block):=
 ⟨rfl,rfl,rfl,by simp[World.setCell],λk _ h=>lS _ _ _ _ (λe=>h (by rw[e]))⟩
theorem FE{b}{h j:World}{o G}(O:(h.alloc o).grownBy j G)(U:b<h.heap.size)(W:∀q,G=some q->q<b) x:j.cell? ⟨b,x,none⟩=h.cell? ⟨b,x,none⟩:=by
 have I:j.heap[b]?=(h.alloc o).heap[b]?:=O.block b (by simp;omega) (λe=>by have:=W b e.symm;omega);have J:(h.alloc o).heap[b]?=h.heap[b]?:=kQ _ _ _ U;exact gH (w:=h) (a:=⟨b,x,none⟩) (I.trans J)
def nH(w:World)(v:Value)(l:List zU):Prop:=w.ownsRow 0 97 7 v l.length (l.flatMap dO)
theorem zDb:∀(l:List zU) k h,k<l.length->h<7->(l.flatMap dO)[k*7+h]?=(dO (l.getD k zZ))[h]?:=by
 intro l;induction l with
 | nil=>intro k h j;simp at j
 | cons t r J =>
  intro k h j I;rw[gT];have G:(dO t).length=7:=rfl;cases k with
  | zero=>rw[gK (by omega)];simp
  | succ k =>
   rw[gL (by omega),G,show(k+1)*7+h-7=k*7+h by omega,J k h (by simpa using j) I];simp
theorem fK{w v l}(j:nH w v l):
  (l=[]/\∃ao cap,v=.slice ao 0 cap)\/
  (0<l.length/\∃g cap,v=.slice (some ⟨g,0,none⟩) l.length cap/\l.length<=cap/\g<w.heap.size/\∀k h,k<l.length->h<7->w.cell? ⟨g,k*7+h,none⟩=(dO (l.getD k zZ))[h]?):=by
 by_cases G:l=[]
 ·left;subst G;refine⟨rfl,?_⟩;rcases j.2 with ⟨rfl,_⟩ | ⟨g,cap,I,rfl,_⟩
  ·exact⟨_,_,rfl⟩
  ·exact⟨_,_,rfl⟩
 ·right;have Z:=iU.2 G;refine⟨Z,?_⟩;rcases j.2 with ⟨rfl,a4⟩ | ⟨g,cap,I,rfl,a3,U,J,a0,a1,a2⟩
  ·omega
  ·refine⟨g,cap,rfl,J,(lM.1 U).1,λk h Y W=>?_⟩;have O:=gU (g:=g) (cap:=cap) j (k*7+h) (by omega);rw[O,zDb l k h Y W]
theorem Aa{w w' v l}(h:nH w v l)(O:Below w.heap.size w w'):nH w' v l:=by
 refine⟨h.1,?_⟩;rcases h.2 with I | ⟨g,cap,G,rfl,J,j,U⟩
 ·exact .inl I
 ·exact .inr ⟨g,cap,G,rfl,J,by rw[O.block g (lM.1 j).1];exact j,U⟩
theorem Jw t:((t.kind==6)=true/\(t.kind==7)=false/\jV t=1)\/((t.kind==6)=false/\(t.kind==7)=true/\jV t=-1)\/((t.kind==6)=false/\(t.kind==7)=false/\jV t=0):=by
 unfold jV;simp only[oU,gP];by_cases h:t.kind=6
 ·simp[h]
 ·by_cases j:t.kind=7
  ·simp[j]
  ·simp[h,j]
theorem FH l v w(j:nH w v l)(a5:l.length<=64):
  Calls prog 51 #[v] w λe w'=>e=.returned (.int .i64 (kE l))/\w=w':=by
 rcases fK j with ⟨rfl,ao,cap,rfl⟩ | ⟨a6,g,cap,rfl,a2,a3,O⟩
 ·clear j
  go_in
  go_wp2_with fail
  refine wM 1 ?_;rw[iM]
  go_wp2
  go_ret;exact⟨rfl,rfl⟩
 ·clear j;have Z:=hid O;clear O
  go_in
  go_wp2_with fail
  go_loop [3,4] (λn i=>∃k:Nat,k<=l.length/\i=.int .i64 k/\n=.int .i64 (kE (l.take k))) (λ_ i=>l.length-(intOf i).toNat)
  case atStart=>exact⟨0,gD _,rfl,rfl⟩
  case round =>
   obtain⟨k,a4,rfl,rfl⟩:=hrel;have⟨b1,b2⟩:=KD l k;by_cases U:k<l.length
   ·have a1:w.cell? ⟨g,k*7,none⟩=some (.int .i64 (l.getD k zZ).kind):=Z.o k 0 U (by omega);have W:Hid (kE (l.take (k+1))=kE (l.take k)+jV (l.getD k zZ)):=Jb l k U;generalize a0:l.getD k zZ=T at *;clear a0;rcases Jw T with ⟨G,I,h⟩ | ⟨G,I,h⟩ | ⟨G,I,h⟩
    all_goals
     have Y:Hid (kE (l.take (k+1))=kE (l.take k)+jV T):=W;have J:Hid (jV T=_):=h;clear h W
     go_wp2
     go_round
     case rel=>exact⟨k+1,by omega,by go_num,by first|(rw[Y.o,J.o];done)|(rw[Y.o,J.o];go_num)⟩
     case measure=>simp[intOf];omega
   ·have:k=l.length:=by omega
    subst this
    go_wp2
    go_ret;exact⟨rH (by first | rfl | rw[rT]),rfl⟩
theorem IC t:((t.kind==6)=false/\jD t=false)\/((t.kind==6)=true/\(t.jB==4)=false/\jD t=false)\/((t.kind==6)=true/\(t.jB==4)=true/\jD t=true):=by
 unfold jD;simp only[oU,gP,gM,lW];omega
theorem Gz l v w(G:nH w v l)(a7:l.length<=64):
  Calls prog 50 #[v] w λe w'=>e=.returned (.int .i64 (kD l))/\w=w':=by
 rcases fK G with ⟨rfl,ao,cap,rfl⟩ | ⟨a8,g,cap,rfl,a4,a5,W⟩
 ·clear G
  go_in
  go_wp2_with fail
  refine wM 1 ?_;rw[iM]
  go_wp2
  go_ret;exact⟨rfl,rfl⟩
 ·clear G;have J:Hid (∀k j,k<l.length->j<7->w.cell? ⟨g,k*7+j,none⟩=(dO (l.getD k zZ))[j]?):=W;clear W
  go_in
  go_wp2_with fail
  go_loop [3,4] (λn i=>∃k:Nat,k<=l.length/\i=.int .i64 k/\n=.int .i64 (kD (l.take k))) (λ_ i=>l.length-(intOf i).toNat)
  case atStart=>exact⟨0,gD _,rfl,rfl⟩
  case round =>
   obtain⟨k,a6,rfl,rfl⟩:=hrel;have⟨b1,b2⟩:=Hl l k;by_cases I:k<l.length
   ·have a2:w.cell? ⟨g,k*7,none⟩=some (.int .i64 (l.getD k zZ).kind):=J.o k 0 I (by omega);have a3:w.cell? ⟨g,k*7+5,none⟩=some (.int .i64 (l.getD k zZ).jB):=J.o k 5 I (by omega);have Y:Hid (kD (l.take (k+1))=kD (l.take k)+if jD (l.getD k zZ)then 1 else 0):=ru l k I;generalize a1:l.getD k zZ=T at *;clear a1;rcases IC T with ⟨O,h⟩ | ⟨O,a0,h⟩ | ⟨O,a0,h⟩
    all_goals
     have Z:Hid (kD (l.take (k+1))=kD (l.take k)+if jD T then 1 else 0):=Y;have U:Hid (jD T=_):=h;clear h Y
     go_wp2
     go_round
     case rel=>exact⟨k+1,by omega,by go_num,by first|(rw[Z.o,U.o];simp;done)|(rw[Z.o,U.o];go_num)⟩
     case measure=>simp[intOf];omega
   ·have:k=l.length:=by omega
    subst this
    go_wp2
    go_ret;exact⟨rH (by first | rfl | rw[rT]),rfl⟩
theorem DW l i v w(I:nH w v l)(b0:l.length<=64)(W:i<=l.length):
  Calls prog 85 #[v,.int .i64 i] w λe w'=>e=.returned (.int .i64 (jO l i))/\w=w':=by
 rcases fK I with ⟨rfl,ao,cap,rfl⟩ | ⟨b1,g,cap,rfl,a6,a7,U⟩
 ·clear I;have:i=0:=by simpa using W
  subst this
  go_in
  go_wp2_with fail
  refine wM 1 ?_;rw[iM]
  go_wp2
  go_ret;exact⟨rfl,rfl⟩
 ·clear I;have a1:Hid (∀k G,k<l.length->G<7->w.cell? ⟨g,k*7+G,none⟩=(dO (l.getD k zZ))[G]?):=U;clear U
  go_in
  go_wp2_with fail
  go_loop [5,6] (λn G=>∃(k:Nat) (x:Int),i<=k/\k<=l.length/\-(k:Int)<=x/\x<=k/\G=.int .i64 k/\n=.int .i64 x/\jO l i=jI (l.drop k) x k) (λ_ G=>l.length-(intOf G).toNat)
  case atStart=>exact⟨i,0,lF _,W,by omega,by omega,rfl,rfl,rfl⟩
  case round =>
   obtain⟨k,x,a8,a9,a3,a4,rfl,rfl,a0⟩:=hrel;have H:Hid (jO l i=jI (l.drop k) x k):=a0;clear a0;by_cases Z:k<l.length
   ·have a5:w.cell? ⟨g,k*7,none⟩=some (.int .i64 (l.getD k zZ).kind):=a1.o k 0 Z (by omega);have j:Hid (jO l i=if x+jV (l.getD k zZ)=0 then k else jI (l.drop (k+1)) (x+jV (l.getD k zZ)) (k+1)):=H.o.trans (KE l x k Z);generalize a2:l.getD k zZ=T at *;clear a2 H;rcases Jw T with ⟨J,O,h⟩ | ⟨J,O,h⟩ | ⟨J,O,h⟩
    ·cases hz:(x+1==0)
     ·have R:Hid (jO l i=jI (l.drop (k+1)) (x+1) (k+1)):=by show _=_;rw[j.o,h,lC (by simpa using hz)]
      clear h j
      go_wp2
      go_round
      case rel=>exact⟨k+1,x+1,by omega,by omega,by omega,by omega,by go_num,rfl,R.o⟩
      case measure=>simp[intOf];omega
     ·have R:Hid (jO l i=k):=by show _=_;rw[j.o,h,lG (by simpa using hz)]
      clear h j
      go_wp2
      go_ret;exact⟨rH (by rw[R.o]),rfl⟩
    ·cases hz:(x-1==0)
     ·have R:Hid (jO l i=jI (l.drop (k+1)) (x-1) (k+1)):=by show _=_;rw[j.o,h,lC (by simp at hz;omega)];rfl
      clear h j
      go_wp2
      go_round
      case rel=>exact⟨k+1,x-1,by omega,by omega,by omega,by omega,by go_num,rfl,R.o⟩
      case measure=>simp[intOf];omega
     ·have R:Hid (jO l i=k):=by show _=_;rw[j.o,h,lG (by simp at hz;omega)]
      clear h j
      go_wp2
      go_ret;exact⟨rH (by rw[R.o]),rfl⟩
    ·cases hz:(x==0)
     ·have R:Hid (jO l i=jI (l.drop (k+1)) x (k+1)):=by show _=_;rw[j.o,h,lC (by simp at hz;omega),uP]
      clear h j
      go_wp2
      go_round
      case rel=>exact⟨k+1,x,by omega,by omega,by omega,by omega,by go_num,rfl,R.o⟩
      case measure=>simp[intOf];omega
     ·have R:Hid (jO l i=k):=by show _=_;rw[j.o,h,lG (by simp at hz;omega)]
      clear h j
      go_wp2
      go_ret;exact⟨rH (by rw[R.o]),rfl⟩
   ·have Y:k=l.length:=by omega
    have R:Hid (jO l i=l.length):=by show _=_;rw[H.o,Y,List.drop_length];rfl
    clear H Y
    go_wp2
    go_ret;exact⟨rH (by rw[R.o]),rfl⟩
theorem Vd l c v w(G:nH w v l)(a4:l.length<=64):
  Calls prog 83 #[v,.int .i64 c] w λe w'=>e=.returned (.bool (closed l c))/\w=w':=by
 have I:=G;rcases fK G with ⟨rfl,ao,cap,rfl⟩ | ⟨b0,g,cap,rfl,a8,a9,Y⟩
 ·clear G I
  go_in
  go_wp2_with fail
  refine wM 1 ?_;rw[iM]
  go_wp2
  go_ret;exact⟨rfl,rfl⟩
 ·clear G;have a1:=hid I;clear I;have O:=hid Y;clear Y
  go_in
  go_wp2_with fail
  go_loop [5] (λU=>∃k:Nat,k<=l.length/\U=.int .i64 k/\closed l c=pE l c (l.drop k) k) (λU=>l.length-(intOf U).toNat)
  case atStart=>exact⟨0,gD _,rfl,rfl⟩
  case round =>
   obtain⟨k,I,rfl,a0⟩:=hrel;have H:=hid a0;clear a0;by_cases J:k<l.length
   ·have a5:w.cell? ⟨g,k*7,none⟩=some (.int .i64 (l.getD k zZ).kind):=O.o k 0 J (by omega);have a7:w.cell? ⟨g,k*7+5,none⟩=some (.int .i64 (l.getD k zZ).jB):=O.o k 5 J (by omega);have a6:w.cell? ⟨g,k*7+3,none⟩=some (.int .i64 (l.getD k zZ).n):=O.o k 3 J (by omega);have j:Hid (closed l c=if jD (l.getD k zZ)=true/\(l.getD k zZ).n=c then decide (jO l k<l.length)else pE l c (l.drop (k+1)) (k+1)):=H.o.trans (CW l c k J);generalize a3:l.getD k zZ=T at *;clear a3 H;rcases IC T with ⟨W,h⟩ | ⟨W,a2,h⟩ | ⟨W,a2,h⟩
    ·have R:Hid (closed l c=pE l c (l.drop (k+1)) (k+1)):=by show _=_;rw[j.o,h];simp
     clear h j;go_wp2_with fail
     go_round
     case rel=>exact⟨k+1,by omega,by go_num,R.o⟩
     case measure=>simp[intOf];omega
    ·have R:Hid (closed l c=pE l c (l.drop (k+1)) (k+1)):=by show _=_;rw[j.o,h];simp
     clear h j;go_wp2_with fail
     go_round
     case rel=>exact⟨k+1,by omega,by go_num,R.o⟩
     case measure=>simp[intOf];omega
    ·cases hz:(T.n==c)
     ·have R:Hid (closed l c=pE l c (l.drop (k+1)) (k+1)):=by show _=_;rw[j.o,h,lC (by simp at hz;simp[hz])]
      clear h j;go_wp2_with fail
      go_round
      case rel=>exact⟨k+1,by omega,by go_num,R.o⟩
      case measure=>simp[intOf];omega
     ·have R:Hid (closed l c=decide (jO l k<l.length)):=by show _=_;rw[j.o,h,lG (by simp at hz;simp[hz])]
      clear h j;go_wp2_with (first|(go_at_call 85;refine(DW l _ _ _ a1.o a4 (by omega)).mono ?_;rintro e w' ⟨rfl,rfl⟩))
      go_ret;exact⟨jM (by rw[R.o]),rfl⟩
   ·have Z:k=l.length:=by omega
    have R:Hid (closed l c=false):=by show _=_;rw[H.o,Z,List.drop_length];rfl
    clear H Z;go_wp2_with fail
    go_ret;exact⟨jM (by rw[R.o]),rfl⟩
theorem last_at(l:List zU)(h:0<l.length):l.getLast?=some (l.getD (l.length-1) zZ):=by
 rw[List.getLast?_eq_getElem?,lH,lN (by omega)];rfl
theorem Ve(k:Int):((k==1)=true/\decide (k=1\/k=2\/k=3\/k=4\/k=7)=true)\/((k==1)=false/\(k==2)=true/\decide (k=1\/k=2\/k=3\/k=4\/k=7)=true)\/
  ((k==1)=false/\(k==2)=false/\(k==3)=true/\decide (k=1\/k=2\/k=3\/k=4\/k=7)=true)\/
  ((k==1)=false/\(k==2)=false/\(k==3)=false/\(k==4)=true/\decide (k=1\/k=2\/k=3\/k=4\/k=7)=true)\/
  ((k==1)=false/\(k==2)=false/\(k==3)=false/\(k==4)=false/\(k==7)=true/\decide (k=1\/k=2\/k=3\/k=4\/k=7)=true)\/
  ((k==1)=false/\(k==2)=false/\(k==3)=false/\(k==4)=false/\(k==7)=false/\decide (k=1\/k=2\/k=3\/k=4\/k=7)=false):=by
 simp only[oU,gP,gM,lW];omega
theorem Qb l v w(I:nH w v l)(a2:l.length<=64):
  Calls prog 84 #[v] w λe w'=>e=.returned (.bool (pV l))/\w=w':=by
 rcases fK I with ⟨rfl,ao,cap,rfl⟩ | ⟨Y,g,cap,rfl,a0,a1,O⟩
 ·clear I
  go_in
  go_wp2
  go_ret;exact⟨rfl,rfl⟩
 ·clear I;have Z:w.cell? ⟨g,(l.length-1)*7,none⟩=some (.int .i64 (l.getD (l.length-1) zZ).kind):=O (l.length-1) 0 (by omega) (by omega);clear O
  have e:pV l=decide ((l.getD (l.length-1) zZ).kind=1\/(l.getD (l.length-1) zZ).kind=2\/(l.getD (l.length-1) zZ).kind=3\/(l.getD (l.length-1) zZ).kind=4\/(l.getD (l.length-1) zZ).kind=7):=by
   unfold pV;rw[last_at l Y]
  rw[e];clear e;generalize W:l.getD (l.length-1) zZ=T at *;clear W;rcases Ve T.kind with ⟨h,e⟩ | ⟨h,j,e⟩ | ⟨h,j,G,e⟩ | ⟨h,j,G,J,e⟩ | ⟨h,j,G,J,U,e⟩ | ⟨h,j,G,J,U,e⟩
  all_goals
   rw[e];clear e
   go_in
   go_wp2
   go_ret;exact⟨rfl,rfl⟩
