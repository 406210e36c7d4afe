import Derived.Test.YtpbfiffgcgnidaaGreatDoorYal
import Derived.Test.YtpbfiffgcgnidaaGreatDoorY7
namespace Go.Proofs.YtpbfiffgcgnidaaGreatDoor
set_option maxRecDepth 100000
set_option maxHeartbeats 4000000
set_option linter.unusedSimpArgs false
open Go.Proofs.Tryz
section
attribute [local go_sem] AE As
open Go.RowKit Go.WideMaps Go.Maps
def LI:Nat->List B8->Int
 |_,[]=> -1
 |k,t::r=>if Bo t=true then(k:Int) else LI (k+1) r
def fv(ts:List B8):Int:=LI 0 ts
theorem Ya(ts:List B8)(k:Nat)(h:k<ts.length):LI k (ts.drop k)=if Bo ts[k]=true then(k:Int) else LI (k+1) (ts.drop (k+1)):=by rw[Aa h,LI]
theorem Vs(w:World)(b o cap:Nat)(ts:List B8)(hn:ts.length<=3)(hc:∀(j:Nat) (h:j<ts.length),w.cell? ⟨b,o+j,none⟩=some (.string (bs ts[j]))):
 Calls prog 106 #[.slice (some ⟨b,o,none⟩) ts.length cap,.func (.func 94) #[] #[]] w fun e w'=>e=.returned (.int .i64 (fv ts))/\w'=w:=by
 go_enter func106,ntmps106;go_wp2
 go_loopw [8] (fun v wr=>∃(i:Nat),i<=ts.length/\v=.int .i64 i/\Hid (LI i (ts.drop i)=fv ts)/\wr=w) (fun v _=>ts.length-(intOf v).toNat)
 case atStart=>exact⟨0,by omega,rfl,rfl,rfl⟩
 case round=>
  obtain⟨i,hi,rfl,k,rfl⟩:=hrel;by_cases q:i<ts.length
  ·have q0:=hc i q;have HD:=Ao (Ya ts i q);generalize ts[i]=t at*;clear hc;cases u:Bo t
   ·go_wp2_with (go_at_call 94;refine(DS _ _).mono ?_;rintro e w' ⟨rfl,rfl⟩);exact⟨⟨i+1,q,by go_num,by show _=_;rw[<-k.out,HD.out,u];rfl,trivial⟩,by simp[intOf];omega⟩
   ·have y:=Ao (show fv ts=(i:Int) by rw[<-k.out,HD.out,u];rfl);go_wp2_with (go_at_call 94;refine(DS _ _).mono ?_;rintro e w' ⟨rfl,rfl⟩)
    go_ret
    rw[y.out];exact⟨rfl,rfl⟩
  ·have z:i=ts.length:=by omega
   have y:=Ao (show fv ts= -1 by rw[<-k.out,z,AR];rfl);clear hc z;go_wp2
   go_ret
   rw[y.out];exact⟨rfl,rfl⟩
theorem JL(w:World)(nm:ByteArray)(ts:List B8)(h3:ts.length<=3):
 Calls prog 69 #[.agg #[.string nm,.int .i64 (ts.length:Nat),.string (bs (ts.getD 0 [])),.string (bs (ts.getD 1 [])),.string (bs (ts.getD 2 []))]] w fun e w'=>e=.returned (.int .i64 (fv ts))/\Below w.heap.size w w':=by
 obtain⟨z,g⟩:∃z,Hid (z=bs (ts.getD 0 [])):=⟨_,rfl⟩;obtain⟨y,b⟩:∃y,Hid (y=bs (ts.getD 1 [])):=⟨_,rfl⟩;obtain⟨k,d⟩:∃k,Hid (k=bs (ts.getD 2 [])):=⟨_,rfl⟩;rw[<-g.out,<-b.out,<-d.out];have v:=Aw.new w [Value.string nm,.int .i64 (ts.length:Nat),.string z,.string y,.string k] 80
 have q:∀(j:Nat) (h:j<ts.length),(w.alloc (.cells #[Value.string nm,.int .i64 (ts.length:Nat),.string z,.string y,.string k] 80)).cell? ⟨w.heap.size,2+j,none⟩=some (.string (bs ts[j])):=by
  intro j u;rw[v.cell];have h:j=0\/j=1\/j=2:=by omega
  rcases h with rfl|rfl|rfl
  ·simp[g.out,u]
  ·simp[b.out,u]
  ·simp[d.out,u]
 have t:=Ao q;clear q;have q0:=fun W:World=>NO ts.length h3 w.heap.size 2 W;go_enter func69,ntmps69;go_wp2_with (go_at_call 106;refine(Vs _ w.heap.size 2 3 ts h3 t.out).mono ?_;rintro e w' ⟨rfl,rfl⟩)
 go_ret
 exact⟨rfl,Ac _ _⟩
def CR(n:Nat)(ts:List B8):Bool:=decide (n=0)&&decide (fv ts<0)
theorem Tx(w:World)(nm:ByteArray)(ts:List B8)(bo:Option Addr)(n bcap:Nat)(h3:ts.length<=3)(hn:n<=4):
 Calls prog 72 #[.agg #[.string nm,.int .i64 (ts.length:Nat),.string (bs (ts.getD 0 [])),.string (bs (ts.getD 1 [])),.string (bs (ts.getD 2 [])),.slice bo n bcap]] w fun e w'=>e=.returned (.bool (CR n ts))/\Below w.heap.size w w':=by
 have q:=fun W:World=>JL W nm ts h3;obtain⟨g,k⟩:∃g,Hid (g=bs (ts.getD 0 [])):=⟨_,rfl⟩;obtain⟨b,v⟩:∃b,Hid (b=bs (ts.getD 1 [])):=⟨_,rfl⟩;obtain⟨d,u⟩:∃d,Hid (d=bs (ts.getD 2 [])):=⟨_,rfl⟩;rw[<-k.out,<-v.out,<-u.out];rw[<-k.out,<-v.out,<-u.out]at q;have t:=Ao q;clear q;by_cases z:n=0
 ·subst z;have j:=Ao (show CR 0 ts=decide (fv ts<0) by simp[CR]);generalize fv ts=f at*;go_enter func72,ntmps72;go_wp2_with fail;refine(t.out _).mono ?_;rintro e w1 ⟨rfl,y⟩;go_wp2_with fail
  go_ret
  rw[j.out];exact⟨rfl,(Ac _ _).trans (y.mono (by simp))⟩
 ·have hq:((n:Int)==0)=false:=by rw[Az];omega
  have j:=Ao (show CR n ts=false by simp[CR,z]);clear z;go_enter func72,ntmps72;go_wp2_with fail
  go_ret
  rw[j.out];exact⟨rfl,Ac _ _⟩
end
end Go.Proofs.YtpbfiffgcgnidaaGreatDoor
