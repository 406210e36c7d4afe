import Derived.Test.YtpbfiffgcgnidaaGreatDoorYal
import Derived.Test.YtpbfiffgcgnidaaGreatDoorY34
import Derived.Test.YtpbfiffgcgnidaaGreatDoorY40
namespace Go.Proofs.YtpbfiffgcgnidaaGreatDoor
set_option maxRecDepth 100000
set_option maxHeartbeats 4000000
set_option linter.unusedSimpArgs false
open Go.Proofs.Tryz
section
attribute [local go_sem] AE As
open Go.RowKit Go.WideMaps Go.Maps
theorem nM(w:World)(base:Nat)(ao:Option Addr)(cap:Nat)(cs:List RC)(hP:AY w base (.slice ao cs.length cap) (cs.map RC.d))(hF:E2 cs)(nm:B8)(o:nm.length<=maxLen):
 Calls prog 45 #[.slice ao cs.length cap,.string (bs nm)] w fun e w'=>e=.returned (.int .i64 (PC cs nm))/\Below w.heap.size w w':=by
 have q:(cs.map RC.d).length=cs.length:=AK ..;have b:AY w base (.slice ao (cs.map RC.d).length cap) (cs.map RC.d):=by rw[q];exact hP
 have k:=Ao (XM w base ao cap (cs.map RC.d) b hF.wf (by rw[q];exact hF.bp));rw[q]at k;have m:Hid (PC cs nm=if nm∈DL (cs.map RC.d) then((D9 (CV (cs.map RC.d)) (DL (cs.map RC.d)).length nm:Nat):Int) else-1):=by show _=_;rw[K1,OC];rfl
 have hin:∀d∈cs.map RC.d,d.name∈DL (cs.map RC.d)/\∀l∈d.lits,l.name∈DL (cs.map RC.d):=by intro d hd;obtain⟨c,hc,rfl⟩:=List.mem_map.1 hd;have h:=I0 cs c hc;rw[<-K1]at h;refine⟨h.1,fun l hl=>?_⟩;obtain⟨a,ha,rfl⟩:=List.mem_map.1 (show l∈c.body.map RA.lit from hl);exact h.2 a ha
 have u:∀e∈CV (cs.map RC.d),e.h∈DL (cs.map RC.d):=by intro e j;unfold CV at j;obtain⟨d,hd,j⟩:=List.mem_flatMap.1 j;obtain⟨l,_,rfl⟩:=List.mem_map.1 (show e∈d.lits.map _ from j);exact(hin d hd).1
 have x:=Ao (Qk (CV (cs.map RC.d)) (by rw[OC];exact hF.flat) (DL (cs.map RC.d)) u);have Y:=Ao (K3 (CV (cs.map RC.d)) (DL (cs.map RC.d)).length);have n:=Ao (fun W w1 g f mv lv sb=>eM W w1 (base:=base) (ao:=ao) (cap:=cap) (ds:=cs.map RC.d) (hW:=hF.wf) (hn:=by rw[q];exact hF.bp) (sbase:=w.heap.size) (sb:=sb) (mv:=mv) (lv:=lv) (U:=DL (cs.map RC.d)) (hUd:=R2 _ _ Cw) (hU:=hin) (g:=g) (f:=f) (L:=D9 (CV (cs.map RC.d)) (DL (cs.map RC.d)).length));rw[q]at n b;have N:=Ao (fun f=>U2 (CV (cs.map RC.d)) (DL (cs.map RC.d)) u f);have P:=Ao (fun f=>Zj (CV (cs.map RC.d)) (DL (cs.map RC.d)) f);have K:=Ao (fun f=>P2 (CV (cs.map RC.d)) (D9 (CV (cs.map RC.d)) (DL (cs.map RC.d)).length) x.out (CV (cs.map RC.d)) (fun _ h=>h) (f,false));clear hin u q;generalize CV (cs.map RC.d)=E at*;generalize cs.map RC.d=ds at*;generalize DL ds=U at*;by_cases t:nm∈U
 ·have J:=Ao (show PC cs nm=((D9 E U.length nm:Nat):Int) by rw[m.out,Ai t]);have V:=Ao (Mi U nm t);have Z:=Ao (Ov U nm t);have q2:=B9 t;have G:=Ao (Kq U (D9 E U.length) nm t);generalize U.idxOf nm=pos at*;go_enter func45,ntmps45;go_wp2_with (first|(go_at_call 74;refine(k.out).mono ?_;rintro e w1 ⟨mv,lv,rfl,hC,hS,S,z⟩;have O:=Qe U.length (by omega))|(go_at_call 75;refine(J8 _ w.heap.size w.heap.size mv lv [] 178 U nm (by exact hC) (by exact hS) o).mono ?_;rintro e w2 ⟨j,i⟩;subst w2;rw[V.out,Z.out]at j;subst j)|(go_at_call 76;refine(Tm _ w.heap.size w.heap.size mv lv [] 178 U (by exact hC) (by exact hS)).mono ?_;rintro e w2 ⟨j,i⟩;subst w2;subst j));have X:=b.below z;have s:=N5 w1 U;have I:=z.size;clear O;generalize q1:D9 E U.length=L at*
  go_loopw [] (fun wr=>∃f,(∀p,f p<=L p)/\Aw wr w1.heap.size (Gb U f) 3/\Below w1.heap.size w1 wr) (fun wr=>Nc U L-UY wr w1.heap.size U.length)
  case atStart=>exact⟨fun _=>0,fun _=>Cq _,s,Ac _ _⟩
  case round=>
   clear s;obtain⟨f,A,H,hB⟩:=hrel;have C:=Ao (P0 wr w1.heap.size U f H);have Q:=Ao (n.out w1 wr w1.heap.size f mv lv w.heap.size hB (by exact X) (by exact hC) (by exact hS) (Ab _) x.out (fun p=>by have:=Y.out p;omega) A H);have r:=Ao (K.out f A);have M:=Ao (N.out f);have R:=Ao (P.out f A);cases hgr:(BR E (f,false)).2
   ·have HE:=Ao (R.out hgr);have HK:=Ao (Ly E f hgr).1;rw[hgr]at Q;go_wp2_with (go_at_call 77;refine(Q.out).mono ?_;rintro e w2 ⟨rfl,y,v⟩;rw[HK.out,HE.out]at y;have q0:=y.cell pos;rw[G.out]at q0)
    go_ret
    rw[J.out];exact⟨rfl,z.trans (v.mono I)⟩
   ·have B:=Ao (M.out hgr);rw[hgr]at Q;go_wp2_with (go_at_call 77;refine(Q.out).mono ?_;rintro e w2 ⟨rfl,y,v⟩);refine⟨⟨_,r.out,y,v⟩,?_⟩;have h1:=P0 w2 w1.heap.size U _ y;have h2:=Wr U _ L r.out;have h3:=B.out;have h4:=C.out;omega
 ·have J:=Ao (show PC cs nm= -1 by rw[m.out,Af t])
  have Z:=Ao (show BZ U nm=false by
   cases h:BZ U nm
   ·rfl
   ·exact absurd (List.contains_iff_mem.1 h) t)
  go_enter func45,ntmps45;go_wp2_with (first|(go_at_call 74;refine(k.out).mono ?_;rintro e w1 ⟨mv,lv,rfl,hC,hS,S,z⟩)|(go_at_call 75;refine(J8 _ w.heap.size w.heap.size mv lv [] 178 U nm (by exact hC) (by exact hS) o).mono ?_;rintro e w2 ⟨j,i⟩;subst w2;rw[Z.out]at j;subst j))
  go_ret
  rw[J.out];exact⟨rfl,z⟩
end
end Go.Proofs.YtpbfiffgcgnidaaGreatDoor
