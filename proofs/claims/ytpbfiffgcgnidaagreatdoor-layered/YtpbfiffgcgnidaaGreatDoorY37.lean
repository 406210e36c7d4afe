import Derived.Test.YtpbfiffgcgnidaaGreatDoorYal
import Derived.Deep.CutRange
import Derived.Deep.Slices
import Derived.ChangeArms
import Derived.Test.YtpbfiffgcgnidaaGreatDoorY3
namespace Go.Proofs.YtpbfiffgcgnidaaGreatDoor
set_option maxRecDepth 100000
set_option maxHeartbeats 4000000
set_option linter.unusedSimpArgs false
open Go.Proofs.Tryz
section
attribute [local go_sem] AE As
open Go.RowKit Go.WideMaps Go.Maps
def Fx(m:Int)(n:Nat):Nat:=((m.tmod n+n).tmod n).toNat
theorem EF(m:Int)(n:Nat)(hn:0<n)(q0:n<=5000000000001):IntKind.i64.wrap (m.tmod n+n)=m.tmod n+n/\(m.tmod n+n).tmod n=((Fx m n:Nat):Int)/\Fx m n<n:=by
 have h1:m.tmod n<n:=Int.tmod_lt_of_pos m (by omega);have h2: -(n:Int)<m.tmod n:=by exact Int.lt_tmod_of_pos m (by omega)
 have h3:0<=m.tmod n+n:=by omega
 have h4:(m.tmod n+n).tmod n=(m.tmod n+n)%n:=Int.tmod_eq_emod_of_nonneg h3;have h5:=Int.emod_nonneg (m.tmod n+n) (show(n:Int)≠0 by omega);have h6:=Int.emod_lt_of_pos (m.tmod n+n) (show(0:Int)<n by omega);refine⟨?_,?_,?_⟩
 ·simp[IntKind.wrap,IntKind.bits,IntKind.signed];omega
 ·unfold Fx;omega
 ·unfold Fx;omega
theorem QS(w:World)(o:Obj):Below w.heap.size w (w.alloc o):=(Ag _ w).alloc (Ab _) o
theorem Lr(w:World)(o:Obj):(w.alloc o).heap.size=w.heap.size+1:=by simp
theorem Kn(w:World)(q j:Obj):Below w.heap.size w ((w.alloc q).alloc j).drew:=(((Ag _ w).alloc (Ab _) q).alloc (by simp) j).drew
theorem QT(w:World)(v g n cap bb rb:Nat)(f lv:Value)(m:Int)(s:ByteArray)(S:ByteArray)(u b:World->Prop)(hW:Aw w v [.slice (some ⟨g,0,none⟩) n cap,f] 29)(hn:0<n)(z:n<=5000000000001)(hg:g<w.heap.size)
 (c0:w.cell? ⟨g,Fx m n*2,none⟩=some (.pointer (some ⟨bb,0,none⟩)))(c1:w.cell? ⟨g,Fx m n*2+1,none⟩=some (.pointer (some ⟨rb,0,none⟩)))
 (c:∀W ob t,Below w.heap.size w W->Aw W ob [.int .i64 2,.int .i64 m,.string s,lv] 33->Aw W t [.pointer (some ⟨bb,0,none⟩),.pointer (some ⟨rb,0,none⟩)] 44->Calls prog 14 #[.pointer (some ⟨bb,0,none⟩)] W fun e w'=>e=.returned (.string S)/\u w'/\Aw w' ob [.int .i64 2,.int .i64 m,.string s,lv] 33/\Aw w' t [.pointer (some ⟨bb,0,none⟩),.pointer (some ⟨rb,0,none⟩)] 44)
 (x:∀w1,u w1->Calls prog 15 #[.pointer (some ⟨rb,0,none⟩)] w1 fun e w'=>e=.returned (.string S)/\b w'):
 Calls prog 10 #[.pointer (some ⟨v,0,none⟩),.agg #[.int .i64 2,.int .i64 m,.string s,lv]] w fun e w'=>e=.returned (.bool true)/\b w':=by
 obtain⟨f1,f2,f3⟩:=EF m n hn z;have p0:w.cell? ⟨v,0,none⟩=some (.slice (some ⟨g,0,none⟩) n cap):=hW.cell 0;have q0:=hW.lt;have q1:¬(n:Int)=0:=by omega
 generalize Fx m n=i at*;have p:=((Aw.new w [.int .i64 2,.int .i64 m,.string s,lv] 33).alloc (.cells #[.pointer (some ⟨bb,0,none⟩),.pointer (some ⟨rb,0,none⟩)] 44)).drew;have d:=(Aw.new (w.alloc (.cells #[.int .i64 2,.int .i64 m,.string s,lv] 33)) [.pointer (some ⟨bb,0,none⟩),.pointer (some ⟨rb,0,none⟩)] 44).drew;rw[Lr]at d;have r:=Kn w (.cells #[.int .i64 2,.int .i64 m,.string s,lv] 33) (.cells #[.pointer (some ⟨bb,0,none⟩),.pointer (some ⟨rb,0,none⟩)] 44);go_enter func10,ntmps10;go_wp2_with fail;go_region;go_wp2_with (first|(go_at_call 14;refine(c _ w.heap.size (w.heap.size+1) r p d).mono ?_;rintro e w1 ⟨rfl,y,q,j⟩;have x1:w1.cell? ⟨w.heap.size+1,1,none⟩=some (.pointer (some ⟨rb,0,none⟩)):=j.cell 1;have o2:w1.cell? ⟨w.heap.size,2,none⟩=some (.string s):=q.cell 2)|(go_at_call 15;refine(x _ y).mono ?_;rintro e w2 ⟨rfl,k⟩))
 go_ret
 exact⟨rfl,k⟩
theorem Po(w:World)(u g n cap bb rb:Nat)(o lv:Value)(m:Int)(s:ByteArray)(x y:Nat)(b d:World->Prop)(hW:Aw w u [.slice (some ⟨g,0,none⟩) n cap,o] 29)(hn:0<n)(z:n<=5000000000001)(hg:g<w.heap.size)
 (c0:w.cell? ⟨g,Fx m n*2,none⟩=some (.pointer (some ⟨bb,0,none⟩)))(c1:w.cell? ⟨g,Fx m n*2+1,none⟩=some (.pointer (some ⟨rb,0,none⟩)))
 (f:∀W ob r,Below w.heap.size w W->Aw W ob [.int .i64 3,.int .i64 m,.string s,lv] 33->Aw W r [.pointer (some ⟨bb,0,none⟩),.pointer (some ⟨rb,0,none⟩)] 44->Calls prog 16 #[.pointer (some ⟨bb,0,none⟩),.string s] W fun e w'=>e=.returned (.tuple #[.int .i64 (x:Nat),.int .i64 (y:Nat)])/\b w'/\Aw w' ob [.int .i64 3,.int .i64 m,.string s,lv] 33/\Aw w' r [.pointer (some ⟨bb,0,none⟩),.pointer (some ⟨rb,0,none⟩)] 44)
 (a:∀w1,b w1->Calls prog 17 #[.pointer (some ⟨rb,0,none⟩),.string s] w1 fun e w'=>e=.returned (.tuple #[.int .i64 (x:Nat),.int .i64 (y:Nat)])/\d w'):
 Calls prog 10 #[.pointer (some ⟨u,0,none⟩),.agg #[.int .i64 3,.int .i64 m,.string s,lv]] w fun e w'=>e=.returned (.bool true)/\d w':=by
 obtain⟨f1,f2,f3⟩:=EF m n hn z;have p0:w.cell? ⟨u,0,none⟩=some (.slice (some ⟨g,0,none⟩) n cap):=hW.cell 0;have q0:=hW.lt;have q1:¬(n:Int)=0:=by omega
 generalize Fx m n=i at*;have c:=((Aw.new w [.int .i64 3,.int .i64 m,.string s,lv] 33).alloc (.cells #[.pointer (some ⟨bb,0,none⟩),.pointer (some ⟨rb,0,none⟩)] 44)).drew;have t:=(Aw.new (w.alloc (.cells #[.int .i64 3,.int .i64 m,.string s,lv] 33)) [.pointer (some ⟨bb,0,none⟩),.pointer (some ⟨rb,0,none⟩)] 44).drew;rw[Lr]at t;have p:=Kn w (.cells #[.int .i64 3,.int .i64 m,.string s,lv] 33) (.cells #[.pointer (some ⟨bb,0,none⟩),.pointer (some ⟨rb,0,none⟩)] 44);go_enter func10,ntmps10;go_wp2_with fail;go_region;go_wp2_with (first|(go_at_call 16;refine(f _ w.heap.size (w.heap.size+1) p c t).mono ?_;rintro e w1 ⟨rfl,k,q,j⟩;have x1:w1.cell? ⟨w.heap.size+1,1,none⟩=some (.pointer (some ⟨rb,0,none⟩)):=j.cell 1;have o2:w1.cell? ⟨w.heap.size,2,none⟩=some (.string s):=q.cell 2)|(go_at_call 17;refine(a _ k).mono ?_;rintro e w2 ⟨rfl,v⟩))
 go_ret
 exact⟨rfl,v⟩
theorem NN(w:World)(u g n cap bb rb:Nat)(o lv:Value)(m:Int)(s:ByteArray)(x y:Nat)(b d:World->Prop)(hW:Aw w u [.slice (some ⟨g,0,none⟩) n cap,o] 29)(hn:0<n)(z:n<=5000000000001)(hg:g<w.heap.size)
 (c0:w.cell? ⟨g,Fx m n*2,none⟩=some (.pointer (some ⟨bb,0,none⟩)))(c1:w.cell? ⟨g,Fx m n*2+1,none⟩=some (.pointer (some ⟨rb,0,none⟩)))
 (f:∀W ob r,Below w.heap.size w W->Aw W ob [.int .i64 4,.int .i64 m,.string s,lv] 33->Aw W r [.pointer (some ⟨bb,0,none⟩),.pointer (some ⟨rb,0,none⟩)] 44->Calls prog 18 #[.pointer (some ⟨bb,0,none⟩),.string s] W fun e w'=>e=.returned (.tuple #[.int .i64 (x:Nat),.int .i64 (y:Nat)])/\b w'/\Aw w' ob [.int .i64 4,.int .i64 m,.string s,lv] 33/\Aw w' r [.pointer (some ⟨bb,0,none⟩),.pointer (some ⟨rb,0,none⟩)] 44)
 (a:∀w1,b w1->Calls prog 19 #[.pointer (some ⟨rb,0,none⟩),.string s] w1 fun e w'=>e=.returned (.tuple #[.int .i64 (x:Nat),.int .i64 (y:Nat)])/\d w'):
 Calls prog 10 #[.pointer (some ⟨u,0,none⟩),.agg #[.int .i64 4,.int .i64 m,.string s,lv]] w fun e w'=>e=.returned (.bool true)/\d w':=by
 obtain⟨f1,f2,f3⟩:=EF m n hn z;have p0:w.cell? ⟨u,0,none⟩=some (.slice (some ⟨g,0,none⟩) n cap):=hW.cell 0;have q0:=hW.lt;have q1:¬(n:Int)=0:=by omega
 generalize Fx m n=i at*;have c:=((Aw.new w [.int .i64 4,.int .i64 m,.string s,lv] 33).alloc (.cells #[.pointer (some ⟨bb,0,none⟩),.pointer (some ⟨rb,0,none⟩)] 44)).drew;have t:=(Aw.new (w.alloc (.cells #[.int .i64 4,.int .i64 m,.string s,lv] 33)) [.pointer (some ⟨bb,0,none⟩),.pointer (some ⟨rb,0,none⟩)] 44).drew;rw[Lr]at t;have p:=Kn w (.cells #[.int .i64 4,.int .i64 m,.string s,lv] 33) (.cells #[.pointer (some ⟨bb,0,none⟩),.pointer (some ⟨rb,0,none⟩)] 44);go_enter func10,ntmps10;go_wp2_with fail;go_region;go_wp2_with (first|(go_at_call 18;refine(f _ w.heap.size (w.heap.size+1) p c t).mono ?_;rintro e w1 ⟨rfl,k,q,j⟩;have x1:w1.cell? ⟨w.heap.size+1,1,none⟩=some (.pointer (some ⟨rb,0,none⟩)):=j.cell 1;have o2:w1.cell? ⟨w.heap.size,2,none⟩=some (.string s):=q.cell 2)|(go_at_call 19;refine(a _ k).mono ?_;rintro e w2 ⟨rfl,v⟩))
 go_ret
 exact⟨rfl,v⟩
theorem QV(w:World)(u g n cap bb rb:Nat)(a lv:Value)(m:Int)(s:ByteArray)(z:Int)(b d:World->Prop)(hW:Aw w u [.slice (some ⟨g,0,none⟩) n cap,a] 29)(hn:0<n)(y:n<=5000000000001)(hg:g<w.heap.size)
 (c0:w.cell? ⟨g,Fx m n*2,none⟩=some (.pointer (some ⟨bb,0,none⟩)))(c1:w.cell? ⟨g,Fx m n*2+1,none⟩=some (.pointer (some ⟨rb,0,none⟩)))
 (x:∀W ob r,Below w.heap.size w W->Aw W ob [.int .i64 5,.int .i64 m,.string s,lv] 33->Aw W r [.pointer (some ⟨bb,0,none⟩),.pointer (some ⟨rb,0,none⟩)] 44->Calls prog 20 #[.pointer (some ⟨bb,0,none⟩),.string s] W fun e w'=>e=.returned (.int .i64 z)/\b w'/\Aw w' ob [.int .i64 5,.int .i64 m,.string s,lv] 33/\Aw w' r [.pointer (some ⟨bb,0,none⟩),.pointer (some ⟨rb,0,none⟩)] 44)
 (f:∀w1,b w1->Calls prog 21 #[.pointer (some ⟨rb,0,none⟩),.string s] w1 fun e w'=>e=.returned (.int .i64 z)/\d w'):
 Calls prog 10 #[.pointer (some ⟨u,0,none⟩),.agg #[.int .i64 5,.int .i64 m,.string s,lv]] w fun e w'=>e=.returned (.bool true)/\d w':=by
 obtain⟨f1,f2,f3⟩:=EF m n hn y;have p0:w.cell? ⟨u,0,none⟩=some (.slice (some ⟨g,0,none⟩) n cap):=hW.cell 0;have q0:=hW.lt;have q1:¬(n:Int)=0:=by omega
 generalize Fx m n=i at*;have c:=((Aw.new w [.int .i64 5,.int .i64 m,.string s,lv] 33).alloc (.cells #[.pointer (some ⟨bb,0,none⟩),.pointer (some ⟨rb,0,none⟩)] 44)).drew;have t:=(Aw.new (w.alloc (.cells #[.int .i64 5,.int .i64 m,.string s,lv] 33)) [.pointer (some ⟨bb,0,none⟩),.pointer (some ⟨rb,0,none⟩)] 44).drew;rw[Lr]at t;have p:=Kn w (.cells #[.int .i64 5,.int .i64 m,.string s,lv] 33) (.cells #[.pointer (some ⟨bb,0,none⟩),.pointer (some ⟨rb,0,none⟩)] 44);go_enter func10,ntmps10;go_wp2_with fail;go_region;go_wp2_with (first|(go_at_call 20;refine(x _ w.heap.size (w.heap.size+1) p c t).mono ?_;rintro e w1 ⟨rfl,k,q,j⟩;have x1:w1.cell? ⟨w.heap.size+1,1,none⟩=some (.pointer (some ⟨rb,0,none⟩)):=j.cell 1;have o2:w1.cell? ⟨w.heap.size,2,none⟩=some (.string s):=q.cell 2)|(go_at_call 21;refine(f _ k).mono ?_;rintro e w2 ⟨rfl,v⟩))
 go_ret
 exact⟨rfl,v⟩
theorem Sz(w:World)(q:Nat)(lv:Value)(m:Int)(s:ByteArray)(Q:World->Prop)
 (z:∀W,Below w.heap.size w W->Calls prog 9 #[.pointer (some ⟨q,0,none⟩),.string s] W fun e w'=>e=.returned (.bool true)/\Q w'):
 Calls prog 10 #[.pointer (some ⟨q,0,none⟩),.agg #[.int .i64 1,.int .i64 m,.string s,lv]] w fun e w'=>e=.returned (.bool true)/\Q w':=by
 have j:=QS w (.cells #[.int .i64 1,.int .i64 m,.string s,lv] 33);go_enter func10,ntmps10;go_wp2_with (go_at_call 9;refine(z _ j).mono ?_;rintro e w1 ⟨rfl,hq⟩)
 go_ret
 exact⟨rfl,hq⟩
theorem Sy(w:World)(j g n cap bb rb:Nat)(y lv:Value)(kd m:Int)(s:ByteArray)(hW:Aw w j [.slice (some ⟨g,0,none⟩) n cap,y] 29)(hn:0<n)(q:n<=5000000000001)(hg:g<w.heap.size)(hk:kd<1\/7<kd)
 (c0:w.cell? ⟨g,Fx m n*2,none⟩=some (.pointer (some ⟨bb,0,none⟩)))(c1:w.cell? ⟨g,Fx m n*2+1,none⟩=some (.pointer (some ⟨rb,0,none⟩))):
 Calls prog 10 #[.pointer (some ⟨j,0,none⟩),.agg #[.int .i64 kd,.int .i64 m,.string s,lv]] w fun e w'=>e=.returned (.bool true)/\Below w.heap.size w w':=by
 obtain⟨f1,f2,f3⟩:=EF m n hn q;have p0:w.cell? ⟨j,0,none⟩=some (.slice (some ⟨g,0,none⟩) n cap):=hW.cell 0;have q0:=hW.lt;have q1:¬(n:Int)=0:=by omega
 have k1:(kd==1)=false:=by simp;omega
 have k2:(kd==2)=false:=by simp;omega
 have k3:(kd==3)=false:=by simp;omega
 have k4:(kd==4)=false:=by simp;omega
 have k5:(kd==5)=false:=by simp;omega
 have k6:(kd==6)=false:=by simp;omega
 have k7:(kd==7)=false:=by simp;omega
 generalize Fx m n=i at*;have z:=Kn w (.cells #[.int .i64 kd,.int .i64 m,.string s,lv] 33) (.cells #[.pointer (some ⟨bb,0,none⟩),.pointer (some ⟨rb,0,none⟩)] 44);go_enter func10,ntmps10;go_wp2_with fail;go_region;go_wp2_with fail
 go_ret
 exact⟨rfl,z⟩
theorem fI(w:World)(q:Nat)(z:Value)(hW:Aw w q [z,.slice none 0 0] 29):
 Calls prog 11 #[.pointer (some ⟨q,0,none⟩)] w fun e w'=>e=.returned (.bool true)/\Below w.heap.size w w':=by
 have p1:w.cell? ⟨q,1,none⟩=some (.slice none 0 0):=hW.cell 1;have q0:=hW.lt;go_enter func11,ntmps11;go_wp2_with fail
 go_loopw [3] (fun j wr=>j=.int .i64 0/\wr=w) (fun _ _=>0)
 case atStart=>exact⟨rfl,rfl⟩
 case round=>
  obtain⟨rfl,rfl⟩:=hrel;go_wp2_with fail
  go_ret
  exact⟨rfl,Ag _ _⟩
def GX(w:World)(a:Addr)(n:Nat)(kd m:Nat->Int)(S:Nat->ByteArray)(la:Nat->Option Addr)(ll lc:Nat->Nat):Prop:=
 ∀k,k<n->w.cell? (a.add (k*4))=some (.int .i64 (kd k))/\w.cell? ⟨(a.add (k*4)).block,(a.add (k*4)).off+1,none⟩=some (.int .i64 (m k))/\w.cell? ⟨(a.add (k*4)).block,(a.add (k*4)).off+2,none⟩=some (.string (S k))/\w.cell? ⟨(a.add (k*4)).block,(a.add (k*4)).off+3,none⟩=some (.slice (la k) (ll k) (lc k))
def OB:ByteArray:=⟨#[0x70,0x28,0x61,0x29,0x2e,0x20,0x70,0x28,0x58,0x29,0x20,0x3a,0x2d,0x20,0x71,0x28,0x58,0x2c,0x59,0x29,0x2c,0x20,0x21,0x72,0x28,0x59,0x29,0x2e,0x20,0x71,0x28,0x61,0x2c,0x62,0x29,0x2e,0x20,0x71,0x28,0x62,0x2c,0x63,0x29,0x2e,0x20,0x72,0x28,0x63,0x29,0x2e]⟩
theorem eS(w:World)(Hf:World->Nat->Prop)(ao:Option Addr)(a:Addr)(n cap:Nat)(kd m:Nat->Int)(S:Nat->ByteArray)(la:Nat->Option Addr)(ll lc:Nat->Nat)(A X q:Int)(hn:n<=5000000000000)(Q:0<n->ao=some a)
 (U:∀W,Below w.heap.size w W->GX W a n kd m S la ll lc)
 (g:∀W P k,Hf W k->Below W.heap.size W P->Hf P k)
 (z:∀W k,Hf W k->Below w.heap.size w W/\∃ao c,Aw W w.heap.size [.slice ao k c,.slice none 0 0] 29)
 (y:Calls prog 9 #[.pointer (some ⟨w.heap.size,0,none⟩),.string OB] (w.alloc (.cells #[.slice none 0 0,.slice none 0 0] 29)) fun e w'=>e=.returned (.bool true)/\Hf w' 1)
 (d:∀W k j,Hf W k->j<n->k<=j+1->kd j<=q->Calls prog 10 #[.pointer (some ⟨w.heap.size,0,none⟩),.agg #[.int .i64 (kd j),.int .i64 (m j),.string (S j),.slice (la j) (ll j) (lc j)]] W fun e w'=>e=.returned (.bool true)/\(∃s,Hf w' s/\s<=k+1)/\∀ob cs,Aw W ob cs 33->Aw w' ob cs 33):
 Calls prog 8 #[.slice ao n cap,.int .i64 A,.int .i64 X,.int .i64 q] w fun e w'=>e=.returned (.bool true)/\Below w.heap.size w w':=by
 go_enter func8,ntmps8;go_wp2_with (go_at_call 9;refine y.mono ?_;rintro e w1 ⟨rfl,t⟩;obtain⟨q2,f,o,x⟩:=z _ _ t;have p1:w1.cell? ⟨w.heap.size,0,none⟩=some (.slice f 1 o):=x.cell 0;have l1:=x.lt)
 go_loopw [10,11] (fun R B wr=>∃(k j:Nat),j<=n/\k<=j+1/\R=.bool true/\B=.int .i64 j/\Hf wr k) (fun _ B _=>n-(intOf B).toNat)
 case atStart=>exact⟨1,0,Cq _,by omega,rfl,rfl,t⟩
 case round=>
  obtain⟨k,j,hj,K,rfl,rfl,M⟩:=hrel;obtain⟨C,ar,cp,hW⟩:=z _ _ M;have q6:=hW.lt;have q4:((j:Int)<(n:Int))↔j<n:=by omega
  by_cases u:j<n
  ·obtain⟨c0,c1,c2,c3⟩:=U _ C j u;obtain rfl:=Q (by omega);have J:=QS wr (.cells #[.int .i64 (kd j),.int .i64 (m j),.string (S j),.slice (la j) (ll j) (lc j)] 33);have p:=g _ _ _ M J;by_cases E:kd j<=q
   ·have Y:¬q<kd j:=by omega
    have N:=Aw.new wr [.int .i64 (kd j),.int .i64 (m j),.string (S j),.slice (la j) (ll j) (lc j)] 33;go_upto_region 11 with(go_at_call 10;refine(d _ k j p u K E).mono ?_;rintro e w2 ⟨rfl,⟨s,r,q5⟩,V⟩;have o0:w2.cell? ⟨wr.heap.size,0,none⟩=some (.int .i64 (kd j)):=(V _ _ N).cell 0;obtain⟨q3,q0,q1,l⟩:=z _ _ r)
    go_cut [13] from 33 to 72 (fun v O=>(∃b,v=.bool b)/\O=w2)
    case first=>
     go_wp2_with fail
     all_goals go_meet
     all_goals exact⟨⟨_,rfl⟩,rfl⟩
    case rest=>obtain⟨⟨b,Z⟩,G⟩:=hcut;subst Z;subst G;go_wp2_with (go_at_call 11;refine(fI _ w.heap.size _ l).mono ?_;rintro e w3 ⟨rfl,i⟩);exact⟨⟨s,j+1,u,by omega,rfl,by go_num,g _ _ _ r i⟩,by simp[intOf];omega⟩
   ·have Y:q<kd j:=by omega
    go_wp2_with fail;exact⟨⟨k,j+1,u,by omega,rfl,by go_num,p⟩,by simp[intOf];omega⟩
  ·go_wp2_with fail
   go_ret
   exact⟨rfl,C⟩
end
section
open Go.ChangeShapes Go.WideShapes Go.RowKit Go.Deep
theorem WL:prog.cellsOf 33=4:=by kernel_rfl
theorem kZ:prog.cellsOf 3=1:=by kernel_rfl
theorem kX:prog.cellsOf 9=1:=by kernel_rfl
theorem kY:prog.cellsOf 31=1:=by kernel_rfl
theorem gS:prog.bytesOf 33=56:=by kernel_rfl
structure nB where
 kd:Int
 m:Int
 S:ByteArray
 la:Option Addr
 ll:Nat
 lc:Nat
def oB:nB:=⟨0,0,⟨#[]⟩,none,0,0⟩
theorem eW{H:Type}{enc:TypeId×Value->H}{W:World}{n:Nat}{cs:List Value}{x:DataW H×List MemPlace}(h:DataW.trod enc prog W 0 (fun _=>true) true n 33 cs=some x):
 ∃o:nB,cs=[.int .i64 o.kd,.int .i64 o.m,.string o.S,.slice o.la o.ll o.lc]/\o.S.size<=maxLen:=by
 obtain⟨xs,k,hk,q0,q,z,j⟩:=DataW.trod_struct underlying33 h;rw[WL]at q
 match xs,z,cs,q with
 |[y0,y1,y2,y3],_,[v0,v1,v2,v3],_=>
  have g0:=j 0 _ rfl;have g:=j 1 _ rfl;have g2:=j 2 _ rfl;have b:=j 3 _ rfl;simp[kZ,kX,kY]at g0 g g2 b;obtain⟨n0,y,_,_⟩:=DataW.trod_int underlying3 g0;obtain⟨t,v,_,_⟩:=DataW.trod_int underlying3 g;obtain⟨r,u,_,hs⟩:=DataW.trod_string underlying9 g2
  have d:∃a l c,v3=.slice a l c:=by
   rcases DataW.trod_slice underlying31 b with⟨e,_⟩|⟨a,len,cap,_,_,_,_,e,_⟩
   ·simp at e;exact⟨_,_,_,e⟩
   ·simp at e;exact⟨_,_,_,e⟩
  obtain⟨a,l,c,rfl⟩:=d;simp at y v u;subst y;subst v;subst u;exact⟨⟨n0,t,r,a,l,c⟩,rfl,hs⟩
theorem SG{H:Type}{enc:TypeId×Value->H}{W:World}{fuel:Nat}{v:Value}{d:DataW H}{ps:List MemPlace}(h:DataW.trod enc prog W 0 (fun _=>true) true fuel 22 [v]=some (d,ps))(b:(d.weights prog 22).all (· <=reachBytes)=true):
 ∃(ao:Option Addr) (a:Addr) (n cap:Nat) (O:Nat->nB),v=.slice ao n cap/\(0<n->ao=some a)/\n<=4000000000000/\GX W a n (fun k=>(O k).kd) (fun k=>(O k).m) (fun k=>(O k).S) (fun k=>(O k).la) (fun k=>(O k).ll) (fun k=>(O k).lc)/\∀k,k<n->(O k).S.size<=maxLen:=by
 rcases open_slice underlying22 h with⟨hc,hx⟩|⟨a,len,cap,m,n,D,Pl,hc,_,hl,hm,z,hx,y⟩
 ·simp at hc;subst hc;exact⟨none,⟨0,0,none⟩,0,0,fun _=>oB,rfl,by omega,by omega,fun k u=>by omega,fun k u=>by omega⟩
 ·simp at hc;subst hc;simp only[CW]at hx;obtain⟨rfl,rfl⟩:=hx;simp only[Bk]at z;subst z;have j:len<=4000000000000:=by simp only[DataW.weights,underlying22,List.all_cons,Cp,L4]at b;have h1:=b.1;rw[gS]at h1;simp[reachBytes]at h1;omega
  have q4:Inhabited nB:=⟨oB⟩
  obtain⟨O,g⟩:=choose_lt (α:=nB) (p:=fun i o=>W.cells? 0 (a.add (i*4)) 4=some [.int .i64 o.kd,.int .i64 o.m,.string o.S,.slice o.la o.ll o.lc]/\o.S.size<=maxLen) (fun i (t:i<m)=>by
   obtain⟨cs',h1,h2⟩:=y i t;rw[WL]at h1;obtain⟨o,rfl,r⟩:=eW h2
   exact⟨o,h1,r⟩)
  refine⟨some a,a,len,m,O,rfl,fun _=>rfl,j,?_,fun k u=>(g k (by omega)).2⟩;intro k u;obtain⟨_,_,q⟩:=World.cells?_some (g k (by omega)).1;have c:=q 0 (by omega);have x:=q 1 (by omega);have s:=q 2 (by omega);have q3:=q 3 (by omega);exact⟨c,x,s,q3⟩
end
section
attribute [local go_sem] AE As
open Go.RowKit Go.WideMaps Go.Maps
theorem eR(w:World)(Hf:World->Nat->Nat->Prop)(ao:Option Addr)(a:Addr)(n cap:Nat)(kd m:Nat->Int)(S:Nat->ByteArray)(la:Nat->Option Addr)(ll lc:Nat->Nat)(L A q:Int)(hn:n<=5000000000000)(Z:0<n->ao=some a)
 (B:∀W,Below w.heap.size w W->GX W a n kd m S la ll lc)
 (d:∀W M k j,Hf W k j->Below W.heap.size W M->Hf M k j)
 (r:∀W k j,Hf W k j->Hf W k (j+1))
 (z:∀W k j,Hf W k j->Below w.heap.size w W/\∃ao c I,Aw W w.heap.size [.slice ao k c,I] 29)
 (u:∀W k j,Hf W k j->j<=n->Calls prog 11 #[.pointer (some ⟨w.heap.size,0,none⟩)] W fun e w'=>e=.returned (.bool true)/\Below W.heap.size W w')
 (y:Calls prog 9 #[.pointer (some ⟨w.heap.size,0,none⟩),.string OB] (w.alloc (.cells #[.slice none 0 0,.slice none 0 0] 29)) fun e w'=>e=.returned (.bool true)/\Hf w' 1 0)
 (p:∀W k j,Hf W k j->j<n->k<=j+1->kd j<=q->Calls prog 10 #[.pointer (some ⟨w.heap.size,0,none⟩),.agg #[.int .i64 (kd j),.int .i64 (m j),.string (S j),.slice (la j) (ll j) (lc j)]] W fun e w'=>e=.returned (.bool true)/\(∃o,Hf w' o (j+1)/\o<=k+1)/\∀ob cs,Aw W ob cs 33->Aw w' ob cs 33):
 Calls prog 8 #[.slice ao n cap,.int .i64 L,.int .i64 A,.int .i64 q] w fun e w'=>e=.returned (.bool true)/\Below w.heap.size w w':=by
 go_enter func8,ntmps8;go_wp2_with (go_at_call 9;refine y.mono ?_;rintro e w1 ⟨rfl,x⟩;obtain⟨q2,l,Q,q8,f⟩:=z _ _ _ x;have p1:w1.cell? ⟨w.heap.size,0,none⟩=some (.slice l 1 Q):=f.cell 0;have l1:=f.lt)
 go_loopw [10,11] (fun C P wr=>∃(k j:Nat),j<=n/\k<=j+1/\C=.bool true/\P=.int .i64 j/\Hf wr k j) (fun _ P _=>n-(intOf P).toNat)
 case atStart=>exact⟨1,0,Cq _,by omega,rfl,rfl,x⟩
 case round=>
  obtain⟨k,j,hj,U,rfl,rfl,X⟩:=hrel;obtain⟨N,ar,cp,j0,hW⟩:=z _ _ _ X;have q7:=hW.lt;have q5:((j:Int)<(n:Int))↔j<n:=by omega
  by_cases g:j<n
  ·obtain⟨c0,c1,c2,c3⟩:=B _ N j g;obtain rfl:=Z (by omega);have Y:=QS wr (.cells #[.int .i64 (kd j),.int .i64 (m j),.string (S j),.slice (la j) (ll j) (lc j)] 33);have s:=d _ _ _ _ X Y;by_cases O:kd j<=q
   ·have V:¬q<kd j:=by omega
    have E:=Aw.new wr [.int .i64 (kd j),.int .i64 (m j),.string (S j),.slice (la j) (ll j) (lc j)] 33;go_upto_region 11 with(go_at_call 10;refine(p _ k j s g U O).mono ?_;rintro e w2 ⟨rfl,⟨o,t,q6⟩,G⟩;have o0:w2.cell? ⟨wr.heap.size,0,none⟩=some (.int .i64 (kd j)):=(G _ _ E).cell 0;obtain⟨q3,q0,q1,q9,q4⟩:=z _ _ _ t;have i:=Ao (u _ _ _ t (by omega)))
    go_cut [13] from 33 to 72 (fun v H=>(∃b,v=.bool b)/\H=w2)
    case first=>
     go_wp2_with fail
     all_goals go_meet
     all_goals exact⟨⟨_,rfl⟩,rfl⟩
    case rest=>obtain⟨⟨b,K⟩,R⟩:=hcut;subst K;subst R;go_wp2_with (go_at_call 11;refine(i.out).mono ?_;rintro e w3 ⟨rfl,J⟩);exact⟨⟨o,j+1,g,by omega,rfl,by go_num,d _ _ _ _ t J⟩,by simp[intOf];omega⟩
   ·have V:q<kd j:=by omega
    go_wp2_with fail;exact⟨⟨k,j+1,g,by omega,rfl,by go_num,r _ _ _ s⟩,by simp[intOf];omega⟩
  ·go_wp2_with fail
   go_ret
   exact⟨rfl,N⟩
end
end Go.Proofs.YtpbfiffgcgnidaaGreatDoor
