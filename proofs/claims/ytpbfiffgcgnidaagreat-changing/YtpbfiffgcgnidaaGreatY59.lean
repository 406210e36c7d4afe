import Derived.Test.YtpbfiffgcgnidaaGreatYal
import Derived.Test.YtpbfiffgcgnidaaGreatY27
import Derived.Test.YtpbfiffgcgnidaaGreatY55
namespace Go.Proofs.YtpbfiffgcgnidaaGreat
set_option maxRecDepth 100000
set_option maxHeartbeats 4000000
set_option linter.unusedSimpArgs false
open Go.Proofs.Tryz
section
open Go.ChangeShapes Go.WideShapes Go.ChangeAt Go.RowKit
theorem changing_lifted(os:Os)(started:os.Started)(H:Type)(enc:TypeId×Value->H):
 ReturnsInHanded {} Tryz.checked os 5 .any (Rows.changingSpec.pre6 enc prog Tryz.f5 Rows.changingRow.domain false) (Rows.changingSpec.post enc prog Tryz.f5 false true false false):=by
 refine returnsInHanded_of_change (C:=Tryz.checked) ownKnobs started (by kernel_rfl) func5
  (ChangeSpec.witness6 (enc:=enc) (C:=Tryz.checked) false ⟨#[],#[.slice none 0 0,.int .i64 0,.slice none 0 0],[]⟩ 8 (by kernel_rfl) (by kernel_rfl) (by kernel_rfl) (by kernel_rfl)) ?_
 intro W base args ds gs before hval0 hW _ _;have hval:∀(j:Nat) t v,Tryz.f5.params[j]? =some t->args[j]? =some v->Value.okWide prog W .any base t v:=hval0;have hW':=hW;obtain⟨p,q,hA0,hV,rfl,_,_⟩:=hW;have hA:DataW.TrodAll enc prog W 0 (fun _=>true) true Tryz.f5.params.toList args.toList ds p:=hA0;rw[Tryz.params5]at hA hval;obtain⟨v0,v1,v2,d0,d1,d2,p0,p1,p2,rfl,rfl,rfl,h0,h1,h2⟩:=trodAll_three hA;obtain⟨rfl,rfl⟩:=trodVars_none hV;obtain⟨c,rfl,rfl,rfl,wc⟩:=open_int underlying3 (hval 1 3 v1 rfl rfl) h1;clear hA0 hval0
 haveI:DecidableEq R3:=Classical.typeDecidableEq R3
 haveI:DecidableEq A4:=Classical.typeDecidableEq A4
 simp only[List.append_nil]at hW';have hlt0:∀x∈p0,x.block<W.heap.size:=fun x hx=>by simpa using hW'.lt x (by simp[hx])
 have hlt2:∀x∈p2,x.block<W.heap.size:=fun x hx=>by simpa using hW'.lt x (by simp[hx])
 have hbc:=bounds_i64 wc
 have hargs0:∀W':World,Below W.heap.size W W'->DataW.Trod enc prog W' 0 (fun b=>decide (b<W.heap.size)) true 22 v0 d0 p0:=
  fun W' hB=>Below.trod laidOuts (by kernel_rfl) (of_decide_eq_true (by kernel_rfl)) h0 hB hlt0
 have hargs2:∀W':World,Below W.heap.size W W'->DataW.Trod enc prog W' 0 (fun b=>decide (b<W.heap.size)) true 22 v2 d2 p2:=
  fun W' hB=>Below.trod laidOuts (by kernel_rfl) (of_decide_eq_true (by kernel_rfl)) h2 hB hlt2
 obtain⟨a0,n0,c0,rfl,hn0,hi0⟩:=ints_open (hval 0 22 v0 rfl rfl) h0;obtain⟨a2,n2,c2,rfl,hn2,hi2⟩:=ints_open (hval 2 22 v2 rfl rfl) h2;refine(changing_law W a0 n0 c0 c a2 n2 c2 hn0 hi0 hn2 hi2 hbc.1 hbc.2).mono fun e W' ⟨he,hB⟩=>?_;subst he;exact⟨_,rfl,⟨_,_,_,[],_,[],hW',trodAll_mk1 (shut_bool underlying4 _),trodAll_mk3 (hargs0 W' hB) (shut_int underlying3 wc) (hargs2 W' hB),rfl,hB.frame _,fun h=>by cases h⟩⟩
theorem changing_holds:Rows.ChangingSaid:=
 OpenClaim.holds_of_wide 5 Tryz.f5 rfl rfl rfl rfl rfl rfl rfl ⟨rfl,rfl,rfl,rfl,rfl⟩ rfl rfl rfl rfl rfl (by kernel_rfl) func5 (by kernel_rfl)
  (of_decide_eq_true (by kernel_rfl)) (by unfold Func.isWrapper;first|(rw[if_pos (by decide+kernel)];kernel_rfl)|(rw[if_neg (by decide+kernel)];exact⟨rfl,rfl⟩))
  (fun os started H enc _=>changing_lifted os started H enc)
end
end Go.Proofs.YtpbfiffgcgnidaaGreat
