import Derived.Test.YtpbfiffgcgnidaaGreatDoorYal
import Derived.Test.YtpbfiffgcgnidaaGreatDoorY9
namespace Go.Proofs.YtpbfiffgcgnidaaGreatDoor
set_option maxRecDepth 100000
set_option maxHeartbeats 4000000
set_option linter.unusedSimpArgs false
section
open Go.RowKit Go.WideMaps Go.Maps
theorem FB{w:World}{base:Nat}{ao:Option Addr}{cap:Nat}{ds:List Bd}(h:AY w base (.slice ao ds.length cap) ds)(i:Nat)(d:i<ds.length):
 ∃g bo bcap,ao=some ⟨g,0,none⟩/\g<w.heap.size/\w.cell? ⟨g,i*6,none⟩=some (.string ds[i].nm)/\w.cell? ⟨g,i*6+1,none⟩=some (.int .i64 ds[i].cn)/\w.cell? ⟨g,i*6+2,none⟩=some (.string (ds[i].t 0))/\
  w.cell? ⟨g,i*6+3,none⟩=some (.string (ds[i].t 1))/\w.cell? ⟨g,i*6+4,none⟩=some (.string (ds[i].t 2))/\w.cell? ⟨g,i*6+5,none⟩=some (.slice bo ds[i].lits.length bcap)/\
  w.ownsRow base 186 6 (.slice bo ds[i].lits.length bcap) ds[i].lits.length (ds[i].lits.flatMap BQ.cells):=by
 obtain⟨rows,v,p,u⟩:=h;have q:∀r∈rows,r.length=6:=by intro r k;obtain⟨j,hj,rfl⟩:=B3 k;obtain⟨b,hc,_⟩:=u j ds[j] rows[j] (by simp) (by simp);rw[hc];rfl
 obtain⟨g,rfl,hb,hc⟩:=E8 v q p i d;obtain⟨b,y,z⟩:=u i ds[i] rows[i] (by simp) (by simp);have e:rows.getD i []=rows[i]:=by simp[show i<rows.length by omega]
 rw[e,y]at hc;obtain⟨bo,bcap,rfl⟩:=Au z;exact⟨g,bo,bcap,rfl,(v.lt g rfl).2,hc 0 (by decide),hc 1 (by decide),hc 2 (by decide),hc 3 (by decide),hc 4 (by decide),hc 5 (by decide),z⟩
end
end Go.Proofs.YtpbfiffgcgnidaaGreatDoor
