import Derived.Test.YtpbfiffgcgnidaaGreatDoorYal
import Derived.Test.YtpbfiffgcgnidaaGreatDoorTie
import Derived.Test.YtpbfiffgcgnidaaGreatDoorCards
import Derived.Carry
import Derived.Test.YtpbfiffgcgnidaaGreatDoorY50
namespace Go.Proofs.YtpbfiffgcgnidaaGreatDoor
set_option maxRecDepth 100000
set_option maxHeartbeats 4000000
set_option linter.unusedSimpArgs false
open Go.Proofs.Tryz
section
open Go.ChangeShapes Go.WideShapes Go.ChangeAt Go.ChangeMaps Go.WideMaps Go.WideElems Go.RowKit
theorem Z1:laidOutB prog=true:=by kernel_rfl
theorem pP(os:Os)(args:Array Value):laidMetH prog Rows.layeredRow.laid ((World.doorLaid prog 400 os).forCall (fun _ _=>0) ⟨#[],args,[]⟩).memory:=
 laidMetH_of_parts3 (fuel:=8) (laidMet_of_run' 8 (by kernel_rfl) (by kernel_rfl)) (by kernel_rfl) (by kernel_rfl)
theorem pN(os:Os)(k:os.Started)(H:Type)(enc:TypeId×Value->H):
 ReturnsInHanded {} Tryz.checked os 4 .any (fun w args=>(Rows.layeredSpec.pre enc prog Tryz.f4 [] false w args/\laidMetH prog Rows.layeredRow.laid w)/\sizedMet enc prog Tryz.f4 (OpenSpec.ofChange Rows.layeredSpec) false w args)
  (Rows.layeredSpec.post enc prog Tryz.f4 false true false false):=by
 refine returnsInHanded_of_change_and (C:=Tryz.checked) (X:=fun w _=>laidMetH prog Rows.layeredRow.laid w) (fun _ _ _ R h=>h.of_heap R) ZH k (by kernel_rfl) func4
  (ChangeSpec.witness_shaped (enc:=enc) (C:=Tryz.checked) (os:=os) (X:=fun w _=>laidMetH prog Rows.layeredRow.laid w) false (World.doorLaid prog 400 os) #[.slice none 0 0] 8 rfl (World.shaped_of_RefB (by kernel_rfl) (by kernel_rfl)) (by kernel_rfl) (by kernel_rfl) (by kernel_rfl) (pP os _)) ?_
 intro W base args ds K q0 z hW _ r V _;have y:(DataW.weightsEach prog (Tryz.f4.params.toList++Rows.layeredSpec.plain.varTypes prog) (ds++K)).all (· <=reachBytes)=true:=r;have u:∀(j:Nat) t v,Tryz.f4.params[j]? =some t->args[j]? =some v->Value.okWide prog W .any base t v:=z;have g:=hW;obtain⟨p,q,d,U,rfl,_,_⟩:=hW;have l:DataW.TrodAll enc prog W 0 (fun _=>true) true Tryz.f4.params.toList args.toList ds p:=d;rw[Tryz.params4]at l u y;obtain⟨P,Y,rfl,rfl,i⟩:=trodAll_one l;obtain⟨rfl,rfl⟩:=trodVars_none U;have c:=i;obtain⟨fuel,B⟩:=i;have J:=RE V;clear d z r;simp only[BC]at g;have s:∀x∈p,x.block<W.heap.size:=fun x hx=>by simpa using g.lt x hx
 obtain⟨a0,len,b,rfl⟩:=okWide_slice underlying22 (u 0 22 P rfl rfl);have o:(Y.weights prog 22).all (· <=reachBytes)=true:=by simp only[List.cons_append,List.nil_append,DataW.weightsEach,List.all_append,Cp]at y;exact y.1
 obtain⟨ao,a,n,cap,O,Z,m,hn,f,hS⟩:=SG (v:=.slice a0 len b) (by simpa[Value.cells]using B) o;simp only[Bx]at Z;obtain⟨rfl,rfl,rfl⟩:=Z;refine(oV W J (gR (J 0 (by decide))) _ a _ _ _ _ _ _ _ _ hn m f hS).mono fun e W' ⟨G,Q⟩=>?_;subst G;exact⟨_,rfl,⟨_,_,_,[],_,[],g,trodAll_mk1 (shut_bool underlying4 _),trodAll_mk1 (Below.trod Z1 (by kernel_rfl) (BV (by kernel_rfl)) c Q s),rfl,Q.frame _,fun h=>by cases h⟩⟩
theorem pO:Rows.LayeredSaid:=
 OpenClaim.holds_of_wide 4 Tryz.f4 rfl rfl rfl rfl rfl rfl rfl ⟨rfl,rfl,rfl,rfl,rfl⟩ rfl rfl rfl rfl rfl (by kernel_rfl) func4 (by kernel_rfl)
  (BV (by kernel_rfl)) (by unfold Func.isWrapper;first|(rw[Ai (by decide+kernel)];kernel_rfl)|(rw[Af (by decide+kernel)];exact⟨rfl,rfl⟩))
  (fun os q H enc _=>pN os q H enc)
theorem layeredCard_holds:Rows.LayeredCardSaid:=
 Xb .later [.data] true Rows.layeredCard.stood.harness false true
  pO (by kernel_rfl) layered_row_tie rfl ⟨rfl,rfl⟩ (by kernel_rfl) rfl
  (fun f y k z=>by
    obtain rfl:f=4:=Be ((show prog.funcNamed Rows.layeredRow.func=some 4 by kernel_rfl).symm.trans k)|>.symm;obtain rfl:y=Tryz.f4:=(Be (func4.symm.trans z)).symm
    exact⟨by kernel_rfl,fun j t ht=>by
     rw[Tryz.params4]at ht;have v:t∈[22]:=by simpa using Array.mem_of_getElem? ht
     have q:([22].all fun u=> !prog.wantsStandIn u)=true:=by kernel_rfl
     exact(show prog.wantsStandIn t=false by simpa using List.all_eq_true.1 q t v)⟩)
  (by kernel_rfl)
end
end Go.Proofs.YtpbfiffgcgnidaaGreatDoor
