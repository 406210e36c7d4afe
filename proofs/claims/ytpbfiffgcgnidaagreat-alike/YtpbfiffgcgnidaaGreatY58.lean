import Derived.Test.YtpbfiffgcgnidaaGreatYal
import Derived.Test.YtpbfiffgcgnidaaGreatY27
import Derived.Test.YtpbfiffgcgnidaaGreatY56
namespace Go.Proofs.YtpbfiffgcgnidaaGreat
set_option maxRecDepth 100000
set_option maxHeartbeats 4000000
set_option linter.unusedSimpArgs false
open Go.Proofs.Tryz
section
open Go.ChangeShapes Go.WideShapes Go.ChangeAt Go.RowKit
theorem alike_lifted(os:Os)(started:os.Started)(H:Type)(enc:TypeId×Value->H):
 ReturnsInHanded {} Tryz.checked os 6 .any (Rows.alikeSpec.pre6 enc prog Tryz.f6 Rows.alikeRow.domain false) (Rows.alikeSpec.post enc prog Tryz.f6 false true false false):=by
 refine returnsInHanded_of_change (C:=Tryz.checked) ownKnobs started (by kernel_rfl) func6
  (ChangeSpec.witness6 (enc:=enc) (C:=Tryz.checked) false ⟨#[],#[.slice none 0 0,.int .i64 0,.int .i64 0],[]⟩ 8 (by kernel_rfl) (by kernel_rfl) (by kernel_rfl) (by kernel_rfl)) ?_
 intro W base args ds gs before hval0 hW _ _;have hval:∀(j:Nat) t v,Tryz.f6.params[j]? =some t->args[j]? =some v->Value.okWide prog W .any base t v:=hval0;have hW':=hW;obtain⟨p,q,hA0,hV,rfl,_,_⟩:=hW;have hA:DataW.TrodAll enc prog W 0 (fun _=>true) true Tryz.f6.params.toList args.toList ds p:=hA0;rw[Tryz.params6]at hA hval;obtain⟨v0,v1,v2,d0,d1,d2,p0,p1,p2,rfl,rfl,rfl,h0,h1,h2⟩:=trodAll_three hA;obtain⟨rfl,rfl⟩:=trodVars_none hV;have h0k:=h0;obtain⟨fuel,hf⟩:=h0;obtain⟨c,rfl,rfl,rfl,wc⟩:=open_int underlying3 (hval 1 3 v1 rfl rfl) h1;obtain⟨m,rfl,rfl,rfl,wm⟩:=open_int underlying3 (hval 2 3 v2 rfl rfl) h2;clear hA0 hval0
 haveI:DecidableEq R3:=Classical.typeDecidableEq R3
 haveI:DecidableEq A4:=Classical.typeDecidableEq A4
 simp only[List.append_nil]at hW';have hlt:∀x∈p0,x.block<W.heap.size:=fun x hx=>by simpa using hW'.lt x hx
 have hbc:=bounds_i64 wc;have hbm:=bounds_i64 wm
 have hargs:∀W':World,Below W.heap.size W W'->DataW.Trod enc prog W' 0 (fun b=>decide (b<W.heap.size)) true 22 v0 d0 p0:=
  fun W' hB=>Below.trod laidOuts (by kernel_rfl) (of_decide_eq_true (by kernel_rfl)) h0k hB hlt
 obtain⟨a0,len,cap,rfl⟩:=okWide_slice underlying22 (hval 0 22 v0 rfl rfl);rcases open_ints underlying22 underlying3 cellsInt hf with⟨hcs,hx⟩|⟨a,len',cap',zs,hcs,_,hl,hm,hz,hx,hcell,hwz⟩
 ·simp[Value.cells]at hcs;obtain⟨rfl,rfl,rfl⟩:=hcs;simp only[Prod.mk.injEq]at hx;obtain⟨rfl,rfl⟩:=hx;refine(alike_law W none 0 0 c m (by decide) (ints_nil W) hbc.1 hbc.2 hbm.1 hbm.2).mono fun e W' ⟨he,hB⟩=>?_;subst he;exact⟨_,rfl,⟨_,_,_,[],_,[],hW',trodAll_mk1 (shut_bool underlying4 _),trodAll_mk3 (hargs W' hB) (shut_int underlying3 wc) (shut_int underlying3 wm),rfl,hB.frame _,fun h=>by cases h⟩⟩
 ·simp[Value.cells]at hcs;obtain⟨rfl,rfl,rfl⟩:=hcs;simp only[Prod.mk.injEq]at hx;obtain⟨rfl,rfl⟩:=hx;simp only[if_true]at hz;refine(alike_law W (some a) len cap c m (by omega) (ints_of (by omega) hcell hwz) hbc.1 hbc.2 hbm.1 hbm.2).mono fun e W' ⟨he,hB⟩=>?_;subst he;exact⟨_,rfl,⟨_,_,_,[],_,[],hW',trodAll_mk1 (shut_bool underlying4 _),trodAll_mk3 (hargs W' hB) (shut_int underlying3 wc) (shut_int underlying3 wm),rfl,hB.frame _,fun h=>by cases h⟩⟩
theorem alike_holds:Rows.AlikeSaid:=
 OpenClaim.holds_of_wide 6 Tryz.f6 rfl rfl rfl rfl rfl rfl rfl ⟨rfl,rfl,rfl,rfl,rfl⟩ rfl rfl rfl rfl rfl (by kernel_rfl) func6 (by kernel_rfl)
  (of_decide_eq_true (by kernel_rfl)) (by unfold Func.isWrapper;first|(rw[if_pos (by decide+kernel)];kernel_rfl)|(rw[if_neg (by decide+kernel)];exact⟨rfl,rfl⟩))
  (fun os started H enc _=>alike_lifted os started H enc)
end
end Go.Proofs.YtpbfiffgcgnidaaGreat
