import Derived.Test.YtpbfiffgcgnidaaGreatYal
import Derived.Test.YtpbfiffgcgnidaaGreatY12
namespace Go.Proofs.YtpbfiffgcgnidaaGreat
set_option maxRecDepth 100000
set_option maxHeartbeats 4000000
set_option linter.unusedSectionVars false
set_option linter.unusedSimpArgs false
open Go.Proofs.Tryz
section
attribute [local go_sem] drewN_alloc drewN_setCell
open Go.RowKit Go.WideMaps Go.Maps
variable [DecidableEq R3] [DecidableEq A4]
theorem atR_c(w:World)(base sb o:Nat)(mv lv:Value)(xs:List R3)(c1:w.cell? ⟨sb,o+1,none⟩=some lv)(hS:SetIsR w base mv lv xs)(i:Nat)(hi:i<xs.length):
 Calls prog 70 #[.pointer (some ⟨sb,o,none⟩),.int .i64 i] w fun e w'=>e=.returned (.agg #[.int .i64 xs[i].a,.int .i64 xs[i].b,.int .i64 xs[i].c])/\Below w.heap.size w w':=by
 obtain⟨ao,cap,rfl⟩:=own_form hS.1;have h:=hS.1;rw[List.flatMap_def]at h;obtain⟨g,rfl,_,hc⟩:=own_at h (by intro r hr;obtain⟨p,_,rfl⟩:=List.mem_map.1 hr;rfl) (by simp) i hi;have e:(xs.map fun k=>cellsR k).getD i []=cellsR xs[i]:=by rw[List.getD_eq_getElem?_getD,List.getElem?_map,List.getElem?_eq_getElem hi];rfl
 rw[e]at hc;have d0:w.cell? ⟨g,i*3,none⟩=some (.int .i64 xs[i].a):=hc 0 (by decide);have d1:w.cell? ⟨g,i*3+1,none⟩=some (.int .i64 xs[i].b):=hc 1 (by decide);have d2:w.cell? ⟨g,i*3+2,none⟩=some (.int .i64 xs[i].c):=hc 2 (by decide);have hsb:=blk_in c1;have hgb:=blk_in d0;clear hc e h;generalize xs[i]=x at*;go_enter func70,ntmps70;go_wp2_with fail;refine bodyPost_ret (v:=.agg #[.int .i64 x.a,.int .i64 x.b,.int .i64 x.c]) (by simp[results,results70,go_sem]) rfl ⟨rfl,below_alloc w _⟩
theorem atI_c(w:World)(base sb o:Nat)(mv lv:Value)(xs:List Nat)(c1:w.cell? ⟨sb,o+1,none⟩=some lv)(hS:SetIsI w base mv lv xs)(i:Nat)(hi:i<xs.length):
 Calls prog 123 #[.pointer (some ⟨sb,o,none⟩),.int .i64 i] w fun e w'=>e=.returned (.int .i64 (xs[i]:Nat))/\w'=w:=by
 obtain⟨ao,cap,rfl⟩:=own_form hS.1;have h:=hS.1;rw[List.flatMap_def]at h;obtain⟨g,rfl,_,hc⟩:=own_at h (by intro r hr;obtain⟨p,_,rfl⟩:=List.mem_map.1 hr;rfl) (by simp) i hi;have e:(xs.map fun k=>[Value.int .i64 (k:Nat)]).getD i []=[.int .i64 (xs[i]:Nat)]:=by rw[List.getD_eq_getElem?_getD,List.getElem?_map,List.getElem?_eq_getElem hi];rfl
 rw[e]at hc;have d0:w.cell? ⟨g,i,none⟩=some (.int .i64 (xs[i]:Nat)):=by simpa using hc 0 (by decide)
 have hsb:=blk_in c1;have hgb:=blk_in d0;clear hc e h;generalize xs[i]=x at*;go_enter func123,ntmps123;go_wp2_with fail
 go_ret
 exact⟨rfl,rfl⟩
end
end Go.Proofs.YtpbfiffgcgnidaaGreat
