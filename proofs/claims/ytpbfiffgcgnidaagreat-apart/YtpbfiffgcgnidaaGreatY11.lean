import Derived.Test.YtpbfiffgcgnidaaGreatYal
import Derived.Test.YtpbfiffgcgnidaaGreatY10
namespace Go.Proofs.YtpbfiffgcgnidaaGreat
set_option maxRecDepth 100000
set_option maxHeartbeats 4000000
set_option linter.unusedSimpArgs false
open Go.Proofs.Tryz
section
attribute [local go_sem] drewN_alloc drewN_setCell
open Go.RowKit Go.WideMaps Go.Maps
theorem bs_size'(k:B8):(bs k).size=k.length:=by simp[bs,ByteArray.size]
def isVar(l:B8):Bool:=great (hd l)
theorem isVariable_c(l:B8)(w:World):Calls prog 58 #[.string (bs l)] w fun e w'=>e=.returned (.bool (isVar l))/\w'=w:=by
 cases l with
 |nil=>
  have h1:(bs []).toList.isEmpty=true:=by rw[Lib.toList_data];rfl
  go_enter func58,ntmps58;go_wp2
  go_ret
  exact⟨rfl,rfl⟩
 |cons c r=>
  have h1:(bs (c::r)).toList.isEmpty=false:=by rw[Lib.toList_data];rfl
  have h2:0<(bs (c::r)).size:=by rw[bs_size'];simp
  have h3:(bs (c::r))[0].toNat=c.toNat:=rfl;go_enter func58,ntmps58;go_wp2_with (go_at_call 78;refine(isGreat_c _ _).mono ?_;rintro e w' ⟨rfl,rfl⟩)
  go_ret
  exact⟨rfl,rfl⟩
theorem slice0(B o:Nat)(w:World):(Instr.sliceAt 52 (.pointer (some ⟨B,o,none⟩)) none (some (.int .i64 0)) none).run prog w=.ok (.slice (some ⟨B,o,none⟩) 0 3) w:=by kernel_rfl
theorem slice1(B o:Nat)(w:World):(Instr.sliceAt 52 (.pointer (some ⟨B,o,none⟩)) none (some (.int .i64 1)) none).run prog w=.ok (.slice (some ⟨B,o,none⟩) 1 3) w:=by kernel_rfl
theorem slice2(B o:Nat)(w:World):(Instr.sliceAt 52 (.pointer (some ⟨B,o,none⟩)) none (some (.int .i64 2)) none).run prog w=.ok (.slice (some ⟨B,o,none⟩) 2 3) w:=by kernel_rfl
theorem slice3(B o:Nat)(w:World):(Instr.sliceAt 52 (.pointer (some ⟨B,o,none⟩)) none (some (.int .i64 3)) none).run prog w=.ok (.slice (some ⟨B,o,none⟩) 3 3) w:=by kernel_rfl
theorem sliceN(n:Nat)(hn:n<=3)(B o:Nat)(w:World):(Instr.sliceAt 52 (.pointer (some ⟨B,o,none⟩)) none (some (.int .i64 n)) none).run prog w=.ok (.slice (some ⟨B,o,none⟩) n 3) w:=by
 have h:n=0\/n=1\/n=2\/n=3:=by omega
 rcases h with rfl|rfl|rfl|rfl
 ·exact slice0 B o w
 ·exact slice1 B o w
 ·exact slice2 B o w
 ·exact slice3 B o w
def addW(xs:List B8)(k:B8):List B8:=if hasW xs k=true then xs else xs++[k]
def posStep(xs:List B8)(l:LitD):List B8:=if l.neg=true then xs else l.ts.foldl addW xs
def posT(ls:List LitD):List B8:=ls.foldl posStep []
theorem addW_len(xs:List B8)(k:B8):(addW xs k).length<=xs.length+1:=by unfold addW;split<;>simp
theorem add_any(w:World)(base sb:Nat)(mv lv:Value)(t:TypeId)(xs:List B8)(k:B8)(hB:Blk w sb [mv,lv] t)(hS:SetIs w base mv lv xs)(hk:k.length<=maxLen)(hn:xs.length<=100000)(ht:t≠9)(hbw:base<=w.heap.size):
 Calls prog 52 #[.pointer (some ⟨sb,0,none⟩),.string (bs k)] w fun e w'=>∃(p:Nat) (q:Bool) (mv' lv':Value),e=.returned (.tuple #[.int .i64 p,.bool q])/\
  Blk w' sb [mv',lv'] t/\SetIs w' base mv' lv' (addW xs k)/\KeptX base sb [9] w w':=by
 cases hx:hasW xs k
 ·refine(add_new w base sb mv lv [] t xs k hB hS hk hx hn ht hbw).mono ?_;rintro e w' ⟨rfl,mv',lv',h1,h2,h3⟩;exact⟨_,_,mv',lv',rfl,h1,by simpa[addW,hx]using h2,h3⟩
 ·refine(add_old w base sb mv lv [] t xs k hB hS hk hx).mono ?_;rintro e w' ⟨rfl,rfl⟩;exact⟨_,_,mv,lv,rfl,hB,by simpa[addW,hx]using hS,KeptX.refl _ _ _ _⟩
theorem positiveTerms_c(w:World)(base:Nat)(n0 t0 t1 t2:ByteArray)(c:Int)(ao:Option Addr)(cap:Nat)(lits:List LitD)
 (hL:w.ownsRow base 130 6 (.slice ao lits.length cap) lits.length (lits.flatMap LitD.cells))(hn:lits.length<=4)(hw:∀l∈lits,l.ts.length<=3/\∀t∈l.ts,t.length<=12):
 Calls prog 75 #[.agg #[.string n0,.int .i64 c,.string t0,.string t1,.string t2,.slice ao lits.length cap]] w fun e w'=>∃tb mv lv,e=.returned (.pointer (some ⟨tb,0,none⟩))/\w.heap.size<=tb/\
  Blk w' tb [mv,lv] 100/\SetIs w' w.heap.size mv lv (posT lits)/\Below w.heap.size w w':=by
 go_enter func75,ntmps75;go_wp2
 go_loopw [13] (fun i wr=>∃(k:Nat) (mv lv:Value),k<=lits.length/\i=.int .i64 k/\((lits.take k).foldl posStep []).length<=3*k/\Blk wr (w.heap.size+1) [mv,lv] 100/\SetIs wr w.heap.size mv lv ((lits.take k).foldl posStep [])/\Below w.heap.size w wr) (fun i _=>lits.length-(intOf i).toNat)
 case atStart=>exact⟨0,.map none,.slice none 0 0,by omega,rfl,by simp,new_two w _ [.map none,.slice none 0 0] 100,⟨World.ownsRow_nil _ _ _ _,.inl ⟨rfl,rfl⟩⟩,((Below.refl _ _).alloc (Nat.le_refl _) _).alloc (by simp) _⟩
 case round=>
  obtain⟨k,mv,lv,hk,rfl,hxl,hC,hS,hB⟩:=hrel;by_cases hlt:k<lits.length
  ·obtain⟨g0,rfl,hg0,e0,e1,e2,e3,e4,e5⟩:=lits_at hL k hlt;have hwl:=hw lits[k] (List.getElem_mem hlt);have HT:Hid ((lits.take (k+1)).foldl posStep []=posStep ((lits.take k).foldl posStep []) lits[k]):=by show _=_;rw[List.take_succ_eq_append_getElem hlt,List.foldl_append];rfl
   generalize hlk:lits[k]=L at*;clear hlk;generalize hxs:(lits.take k).foldl posStep []=xs at*;have HXS:=hid hxs;clear hxs;rw[<-hB.cell (p:=⟨g0,k*6,none⟩) hg0]at e0;rw[<-hB.cell (p:=⟨g0,k*6+1,none⟩) hg0]at e1;rw[<-hB.cell (p:=⟨g0,k*6+2,none⟩) hg0]at e2;rw[<-hB.cell (p:=⟨g0,k*6+3,none⟩) hg0]at e3;rw[<-hB.cell (p:=⟨g0,k*6+4,none⟩) hg0]at e4;rw[<-hB.cell (p:=⟨g0,k*6+5,none⟩) hg0]at e5;have hbw:w.heap.size+1<wr.heap.size:=hC.lt;cases hng:L.neg
   ·have hcn:L.cn=(L.ts.length:Nat):=rfl;have h3:L.ts.length<=3:=hwl.1;rw[hcn]at e1;rw[hng]at e5;have hsl:=fun W:World=>sliceN L.ts.length h3 wr.heap.size 2 W;have hC0:=hC.alloc (.cells #[Value.string L.nm,.int .i64 (L.ts.length:Nat),.string (L.t 0),.string (L.t 1),.string (L.t 2),.bool false] 130);have hS0:=hS.alloc (.cells #[Value.string L.nm,.int .i64 (L.ts.length:Nat),.string (L.t 0),.string (L.t 1),.string (L.t 2),.bool false] 130);have hbx0:=Blk.new wr [Value.string L.nm,.int .i64 (L.ts.length:Nat),.string (L.t 0),.string (L.t 1),.string (L.t 2),.bool false] 130;have hB0:=hB.alloc (by omega) (.cells #[Value.string L.nm,.int .i64 (L.ts.length:Nat),.string (L.t 0),.string (L.t 1),.string (L.t 2),.bool false] 130);go_wp2_with fail;clear e0 e1 e2 e3 e4 e5 hC hS hB hsl hcn;generalize wr.heap.size=R at*
    go_loopw [26] (fun jv wq=>∃(j:Nat) (mv lv:Value),j<=L.ts.length/\jv=.int .i64 j/\((L.ts.take j).foldl addW xs).length<=3*k+j/\Blk wq (w.heap.size+1) [mv,lv] 100/\SetIs wq w.heap.size mv lv ((L.ts.take j).foldl addW xs)/\
     Blk wq R [.string L.nm,.int .i64 (L.ts.length:Nat),.string (L.t 0),.string (L.t 1),.string (L.t 2),.bool false] 130/\Below w.heap.size w wq) (fun jv _=>L.ts.length-(intOf jv).toNat)
    case atStart=>exact⟨0,mv,lv,by omega,rfl,by simpa using hxl,hC0,hS0,hbx0,hB0⟩
    case round=>
     clear hC0 hS0 hbx0 hB0;obtain⟨j,mv,lv,hj,rfl,hxj,hC,hS,hbx,hB⟩:=hrel;have hbw1:w.heap.size+1<wr.heap.size:=hC.lt;by_cases hjl:j<L.ts.length
     ·have hw12:=hwl.2 L.ts[j] (List.getElem_mem hjl);have HA:Hid ((L.ts.take (j+1)).foldl addW xs=addW ((L.ts.take j).foldl addW xs) L.ts[j]):=by show _=_;rw[List.take_succ_eq_append_getElem hjl,List.foldl_append];rfl
      have a0:wr.cell? ⟨R,2+j,none⟩=some (.string (bs L.ts[j])):=by
          rw[hbx.cell];have h:j=0\/j=1\/j=2:=by omega
          rcases h with rfl|rfl|rfl<;>simp[LitD.t,hjl]
      obtain⟨tm,htm⟩:∃tm,L.ts[j]=tm:=⟨_,rfl⟩;rw[htm]at a0 hw12 HA;clear htm;obtain⟨ys,hys⟩:∃ys,(L.ts.take j).foldl addW xs=ys:=⟨_,rfl⟩;rw[hys]at hS hxj HA;clear hys;have hal:=addW_len ys tm;go_wp2_with (go_at_call 52;refine(add_any _ w.heap.size (w.heap.size+1) mv lv 100 ys tm (by exact hC) (by exact hS) (by unfold maxLen;omega) (by omega) (by decide) (by omega)).mono ?_;rintro e w2 ⟨pp,qq,mv',lv',rfl,hC2,hS2,hX2⟩);exact⟨⟨j+1,mv',lv',hjl,by go_num,by rw[HA.out];omega,hC2,by rw[HA.out];exact hS2,hX2.ty _ _ _ (by omega) (by decide) hbx,hB.trans (hX2.toBelow (by omega))⟩,by simp[intOf];omega⟩
     ·have hje:j=L.ts.length:=by omega
      have HP:Hid (posStep xs L=(L.ts.take j).foldl addW xs):=by show _=_;rw[hje,List.take_length];simp[posStep,hng]
      clear hje;go_wp2;exact⟨⟨k+1,mv,lv,hlt,by go_num,by rw[HT.out,HP.out];omega,hC,by rw[HT.out,HP.out];exact hS,hB⟩,by simp[intOf];omega⟩
   ·rw[hng]at e5;go_wp2;have hp:posStep xs L=xs:=by simp[posStep,hng]
    exact⟨⟨k+1,mv,lv,hlt,by go_num,by rw[HT.out,hp];omega,hC.alloc _,by rw[HT.out,hp];exact hS.alloc _,hB.alloc (by omega) _⟩,by simp[intOf];omega⟩
  ·have hke:k=lits.length:=by omega
   go_wp2
   go_ret
   subst hke;rw[List.take_length]at hS;exact⟨_,mv,lv,rfl,by omega,hC,hS,hB⟩
def fvGo:Nat->List B8->Int
 |_,[]=> -1
 |k,t::r=>if isVar t=true then(k:Int) else fvGo (k+1) r
def fv(ts:List B8):Int:=fvGo 0 ts
theorem fvGo_drop(ts:List B8)(k:Nat)(h:k<ts.length):fvGo k (ts.drop k)=if isVar ts[k]=true then(k:Int) else fvGo (k+1) (ts.drop (k+1)):=by rw[List.drop_eq_getElem_cons h,fvGo]
theorem indexStr_c(w:World)(b o cap:Nat)(ts:List B8)(hn:ts.length<=3)(hc:∀(j:Nat) (h:j<ts.length),w.cell? ⟨b,o+j,none⟩=some (.string (bs ts[j]))):
 Calls prog 57 #[.slice (some ⟨b,o,none⟩) ts.length cap,.func (.func 58) #[] #[]] w fun e w'=>e=.returned (.int .i64 (fv ts))/\w'=w:=by
 go_enter func57,ntmps57;go_wp2
 go_loopw [8] (fun iv wr=>∃(i:Nat),i<=ts.length/\iv=.int .i64 i/\Hid (fvGo i (ts.drop i)=fv ts)/\wr=w) (fun iv _=>ts.length-(intOf iv).toNat)
 case atStart=>exact⟨0,by omega,rfl,rfl,rfl⟩
 case round=>
  obtain⟨i,hi,rfl,HX,rfl⟩:=hrel;by_cases hlt:i<ts.length
  ·have hci:=hc i hlt;have HD:=hid (fvGo_drop ts i hlt);generalize ts[i]=t at*;clear hc;cases hv:isVar t
   ·go_wp2_with (go_at_call 58;refine(isVariable_c _ _).mono ?_;rintro e w' ⟨rfl,rfl⟩);exact⟨⟨i+1,hlt,by go_num,by show _=_;rw[<-HX.out,HD.out,hv];rfl,trivial⟩,by simp[intOf];omega⟩
   ·have HE:=hid (show fv ts=(i:Int) by rw[<-HX.out,HD.out,hv];rfl);go_wp2_with (go_at_call 58;refine(isVariable_c _ _).mono ?_;rintro e w' ⟨rfl,rfl⟩)
    go_ret
    rw[HE.out];exact⟨rfl,rfl⟩
  ·have hie:i=ts.length:=by omega
   have HE:=hid (show fv ts= -1 by rw[<-HX.out,hie,List.drop_length];rfl);clear hc hie;go_wp2
   go_ret
   rw[HE.out];exact⟨rfl,rfl⟩
theorem firstVariable_c(w:World)(nm:ByteArray)(ts:List B8)(h3:ts.length<=3):
 Calls prog 38 #[.agg #[.string nm,.int .i64 (ts.length:Nat),.string (bs (ts.getD 0 [])),.string (bs (ts.getD 1 [])),.string (bs (ts.getD 2 []))]] w fun e w'=>e=.returned (.int .i64 (fv ts))/\Below w.heap.size w w':=by
 obtain⟨y0,Y0⟩:∃y0,Hid (y0=bs (ts.getD 0 [])):=⟨_,rfl⟩;obtain⟨y1,Y1⟩:∃y1,Hid (y1=bs (ts.getD 1 [])):=⟨_,rfl⟩;obtain⟨y2,Y2⟩:∃y2,Hid (y2=bs (ts.getD 2 [])):=⟨_,rfl⟩;rw[<-Y0.out,<-Y1.out,<-Y2.out];have hbx:=Blk.new w [Value.string nm,.int .i64 (ts.length:Nat),.string y0,.string y1,.string y2] 54
 have hcells:∀(j:Nat) (h:j<ts.length),(w.alloc (.cells #[Value.string nm,.int .i64 (ts.length:Nat),.string y0,.string y1,.string y2] 54)).cell? ⟨w.heap.size,2+j,none⟩=some (.string (bs ts[j])):=by
  intro j hj;rw[hbx.cell];have h:j=0\/j=1\/j=2:=by omega
  rcases h with rfl|rfl|rfl
  ·simp[Y0.out,hj]
  ·simp[Y1.out,hj]
  ·simp[Y2.out,hj]
 have HC:=hid hcells;clear hcells;have hsl:=fun W:World=>sliceN ts.length h3 w.heap.size 2 W;go_enter func38,ntmps38;go_wp2_with (go_at_call 57;refine(indexStr_c _ w.heap.size 2 3 ts h3 HC.out).mono ?_;rintro e w' ⟨rfl,rfl⟩)
 go_ret
 exact⟨rfl,below_alloc _ _⟩
def isFactB(n:Nat)(ts:List B8):Bool:=decide (n=0)&&decide (fv ts<0)
theorem isFact_c(w:World)(nm:ByteArray)(ts:List B8)(bo:Option Addr)(n bcap:Nat)(h3:ts.length<=3)(hn:n<=4):
 Calls prog 41 #[.agg #[.string nm,.int .i64 (ts.length:Nat),.string (bs (ts.getD 0 [])),.string (bs (ts.getD 1 [])),.string (bs (ts.getD 2 [])),.slice bo n bcap]] w fun e w'=>e=.returned (.bool (isFactB n ts))/\Below w.heap.size w w':=by
 have hfv:=fun W:World=>firstVariable_c W nm ts h3;obtain⟨y0,Y0⟩:∃y0,Hid (y0=bs (ts.getD 0 [])):=⟨_,rfl⟩;obtain⟨y1,Y1⟩:∃y1,Hid (y1=bs (ts.getD 1 [])):=⟨_,rfl⟩;obtain⟨y2,Y2⟩:∃y2,Hid (y2=bs (ts.getD 2 [])):=⟨_,rfl⟩;rw[<-Y0.out,<-Y1.out,<-Y2.out];rw[<-Y0.out,<-Y1.out,<-Y2.out]at hfv;have HV:=hid hfv;clear hfv;by_cases h0:n=0
 ·subst h0;have HE:=hid (show isFactB 0 ts=decide (fv ts<0) by simp[isFactB]);generalize fv ts=f at*;go_enter func41,ntmps41;go_wp2_with fail;refine(HV.out _).mono ?_;rintro e w1 ⟨rfl,hB1⟩;go_wp2_with fail
  go_ret
  rw[HE.out];exact⟨rfl,(below_alloc _ _).trans (hB1.mono (by simp))⟩
 ·have hq:((n:Int)==0)=false:=by rw[beq_eq_false_iff_ne];omega
  have HE:=hid (show isFactB n ts=false by simp[isFactB,h0]);clear h0;go_enter func41,ntmps41;go_wp2_with fail
  go_ret
  rw[HE.out];exact⟨rfl,below_alloc _ _⟩
end
end Go.Proofs.YtpbfiffgcgnidaaGreat
