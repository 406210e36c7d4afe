import Derived.Test.YtpbfiffgcgnidaaGreatYal
import Derived.ProofKit
import Derived.OpenShut
import Derived.Test.YtpbfiffgcgnidaaGreatY20
namespace Go.Proofs.YtpbfiffgcgnidaaGreat
set_option maxRecDepth 100000
set_option maxHeartbeats 4000000
set_option linter.unusedSimpArgs false
open Go.Proofs.Tryz
section
open Go.ChangeShapes Go.WideShapes Go.ChangeAt Go.RowKit
theorem ownKnobs:ownKnob prog.godebug=none:=by kernel_rfl
theorem laidOuts:laidOutB prog=true:=by kernel_rfl
theorem cellsInt:prog.cellsOf 3=1:=by kernel_rfl
theorem cell_lt{w:World}{b o:Nat}{v:Value}(h:w.cell? ⟨b,o,none⟩=some v):b<w.heap.size:=by apply Classical.byContradiction;intro hn;have h0:w.heap[b]? =none:=Array.getElem?_eq_none (by omega);simp[World.cell?,h0]at h
theorem ints_of{w:World}{a:Addr}{zs:List Int}{n:Nat}(hn:n<=zs.length)(h:∀i,i<zs.length->w.cell? (a.add i)=some (.int .i64 (zs.getD i 0)))(hw:∀z∈zs,(Lit.int .i64 z).wf=true):Ints w (some a) n:=by
 intro i hi;obtain⟨b,off,rfl,hc⟩:=ints_at h (by omega);have hlz:i<zs.length:=by omega
 have hmem:zs.getD i 0∈zs:=by simp[hlz]
 have hb:=bounds_i64 (hw _ hmem);exact⟨b,off,zs.getD i 0,rfl,cell_lt (hc i (by omega)),hc i (by omega),hb.1,hb.2⟩
theorem ints_nil(w:World):Ints w none 0:=fun i hi=>by omega
theorem ints_open{H:Type}{enc:TypeId×Value->H}{W:World}{base:Nat}{v:Value}{d:DataW H}{p:List MemPlace}(hok:Value.okWide prog W .any base 22 v)(h:DataW.Trod enc prog W 0 (fun _=>true) true 22 v d p):∃ao n cap,v=.slice ao n cap/\n<=maxLen/\Ints W ao n:=by
 obtain⟨fuel,hf⟩:=h;obtain⟨a0,len,cap,rfl⟩:=okWide_slice underlying22 hok;rcases open_ints underlying22 underlying3 cellsInt hf with⟨hcs,hx⟩|⟨a,len',cap',zs,hcs,_,hl,hm,hz,hx,hcell,hwz⟩
 ·simp[Value.cells]at hcs;obtain⟨rfl,rfl,rfl⟩:=hcs;exact⟨none,0,0,rfl,by decide,ints_nil W⟩
 ·simp[Value.cells]at hcs;obtain⟨rfl,rfl,rfl⟩:=hcs;simp only[if_true]at hz;exact⟨some a,len,cap,rfl,by omega,ints_of (by omega) hcell hwz⟩
end
end Go.Proofs.YtpbfiffgcgnidaaGreat
