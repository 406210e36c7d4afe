import Derived.Test.YtpbfiffgcgnidaaGreatYal
import Derived.Test.YtpbfiffgcgnidaaGreatY13
namespace Go.Proofs.YtpbfiffgcgnidaaGreat
set_option maxRecDepth 100000
set_option maxHeartbeats 4000000
set_option linter.unusedSectionVars false
set_option linter.unusedSimpArgs false
open Go.Proofs.Tryz
section
attribute [local go_sem] Ai Ae
open Go.RowKit Go.WideMaps Go.Maps
variable [DecidableEq R3] [DecidableEq A4]
def E4(D:DataW Unit)(xs:List A4):Prop:=
 IsMap D/\∀k:A4,k.Wf->Maps.has D (F0 k)=decide (k∈xs)/\D.atKey (F0 k) (.lit (.int .i64 0))=.lit (.int .i64 (AR xs k))
theorem E4.nil:E4 (.map []) []:=⟨isMap_empty,fun _ _=>⟨rfl,rfl⟩⟩
theorem E4.put{D:DataW Unit}{xs:List A4}(h:E4 D xs)(k:A4)(hw:k.Wf)(hk:k∉xs):E4 (D.put (F0 k) (.lit (.int .i64 xs.length))) (xs++[k]):=by
 refine⟨h.1.put _ _,fun j hj=>?_⟩;by_cases he:j=k
 ·subst he;rw[has_put_same h.1 (Pp j),atKey_put_same h.1 (Pp j),CE xs j hk];exact⟨by simp,rfl⟩
 ·have hne:(F0 j)≠(F0 k):=fun e=>he (PG j k hj hw e);rw[has_put_other hne,atKey_put_other hne,(h.2 j hj).1,(h.2 j hj).2,Fa xs k j he];exact⟨by simp[he],rfl⟩
def Bg(w:World)(base:Nat)(mv lv:Value)(xs:List A4):Prop:=
 w.ownsRow base 115 4 lv xs.length (xs.flatMap fun k=>(Ba k))/\(∀k∈xs,k.Wf)/\
 ((mv=.map none/\xs=[])\/∃r D,mv=.map (some r)/\base<=r/\w.ownsMap (H:=Unit) prog 115 (plainElem prog 3) r xs.length D/\E4 D xs)
theorem Bg.nil(w:World)(base:Nat):Bg w base (.map none) (.slice none 0 0) []:=⟨World.ownsRow_nil _ _ _ _,by simp,.inl ⟨rfl,rfl⟩⟩
theorem Bg.below{base:Nat}{w w':World}{mv lv:Value}{xs:List A4}(h:Bg w base mv lv xs)(hb:Below w.heap.size w w'):Bg w' base mv lv xs:=by
 refine⟨Aq h.1 hb,h.2.1,?_⟩;rcases h.2.2 with h2|⟨r,D,hm,hr,ho,hD⟩
 ·exact .inl h2
 ·exact .inr ⟨r,D,hm,hr,Cj ho hb,hD⟩
theorem Bg.only{S:Nat->Prop}{base:Nat}{w w':World}{mv lv:Value}{xs:List A4}(h:Bg w base mv lv xs)(ho:Ax S w w')(hl:∀q,lv.ownBlock=some q->¬S q)(hm:∀q,Af mv=some q->¬S q):Bg w' base mv lv xs:=by
 refine⟨AU h.1 ho hl,h.2.1,?_⟩;rcases h.2.2 with h2|⟨r,D,rfl,hr,hw,hD⟩
 ·exact .inl h2
 ·exact .inr ⟨r,D,rfl,hr,Fe hw ho (hm r rfl),hD⟩
theorem Bg.lt{base:Nat}{w:World}{mv lv:Value}{xs:List A4}(h:Bg w base mv lv xs):(∀q,lv.ownBlock=some q->base<=q/\q<w.heap.size)/\∀q,Af mv=some q->base<=q/\q<w.heap.size:=by
 refine⟨fun q hq=>h.1.lt q hq,?_⟩;rcases h.2.2 with⟨rfl,_⟩|⟨r,D,rfl,hr,hw,hD⟩
 ·intro q hq;simp[Af]at hq
 ·intro q hq;simp only[Af,Option.some.injEq]at hq;subst hq;exact⟨hr,hw.lt⟩
theorem Bg.alloc{base:Nat}{w:World}{mv lv:Value}{xs:List A4}(h:Bg w base mv lv xs)(o:Obj):Bg (w.alloc o) base mv lv xs:=h.below (Ac w o)
theorem Is(w:World)(base sb o:Nat)(mv lv:Value)(xs:List A4)(k:A4)(c0:w.cell? ⟨sb,o,none⟩=some mv)(hS:Bg w base mv lv xs)(hk:k.Wf):
 Calls prog 155 #[.pointer (some ⟨sb,o,none⟩),(.agg #[.int .i64 k.n,.int .i64 k.r.a,.int .i64 k.r.b,.int .i64 k.r.c])] w fun e w'=>e=.returned (.tuple #[.int .i64 (AR xs k:Nat),.bool (decide (k∈xs))])/\Below w.heap.size w w':=by
 have hkey:keyOf prog 115 (.agg #[.int .i64 k.n,.int .i64 k.r.a,.int .i64 k.r.b,.int .i64 k.r.c])=some (F0 k):=Im k hk;have hsb:=Ct c0;have hB0:=Below.refl w.heap.size w;have hB1:=Ac w (.cells #[.int .i64 k.n,.int .i64 k.r.a,.int .i64 k.r.b,.int .i64 k.r.c] 115);rcases hS.2.2 with⟨rfl,rfl⟩|⟨r,D,rfl,hr,hown,hD⟩
 ·have hnil:=fun w:World=>look_nil (w:=w) true NV underlying104 (EL w) hkey;go_enter func155,ntmps155;go_wp2_with fail;go_region;go_wp2_with fail;go_ret2;exact⟨rfl,by first|exact hB0|exact hB1.drew⟩
 ·obtain⟨hh,ha⟩:=hD.2 k hk;obtain⟨p,HP⟩:∃p:Int,Hid (p=(AR xs k:Nat)):=⟨_,rfl⟩;rw[<-HP.out]at ha⊢;have look:∀W:World,W.ownsMap (H:=Unit) prog 115 (plainElem prog 3) r xs.length D->(Instr.lookup 104 (.map (some r)) (.agg #[.int .i64 k.n,.int .i64 k.r.a,.int .i64 k.r.b,.int .i64 k.r.c]) true).run prog W=.ok (.tuple #[.int .i64 p,.bool (decide (k∈xs))]) W:=by intro W hW;obtain⟨v,ps,hrun,hR⟩:=hW.look_ok NV underlying104 (EL W) (plainElem_int underlying3 (by decide)) hkey;obtain⟨c,rfl,hc,_⟩:=plainElem_int_inv underlying3 hR;have e:=congrArg Prod.fst hc;simp only[]at e;rw[ha]at e;simp at e;rw[hrun,hh,<-e]
  have l0:=look w hown;have l1:=look (w.alloc (.cells #[.int .i64 k.n,.int .i64 k.r.a,.int .i64 k.r.b,.int .i64 k.r.c] 115)).drew (by exact hown.alloc _);clear look;go_enter func155,ntmps155;go_wp2_with fail;go_region;go_wp2_with fail;go_ret2;exact⟨rfl,by first|exact hB0|exact hB1.drew⟩
theorem Og(w:World)(base sb o:Nat)(mv lv:Value)(xs:List A4)(k:A4)(c0:w.cell? ⟨sb,o,none⟩=some mv)(hS:Bg w base mv lv xs)(hk:k.Wf)(hx:k∈xs):
 Calls prog 143 #[.pointer (some ⟨sb,o,none⟩),(.agg #[.int .i64 k.n,.int .i64 k.r.a,.int .i64 k.r.b,.int .i64 k.r.c])] w fun e w'=>e=.returned (.tuple #[.int .i64 (AR xs k),.bool false])/\Below w.heap.size w w':=by
 obtain⟨p,HP⟩:∃p:Int,Hid (p=(AR xs k:Nat)):=⟨_,rfl⟩;have hsb:=Ct c0;have hB1:=Ac w (.cells #[.int .i64 k.n,.int .i64 k.r.a,.int .i64 k.r.b,.int .i64 k.r.c] 115);have hF0:=Is w base sb o mv lv xs k c0 hS hk;have hF1:=Is (w.alloc (.cells #[.int .i64 k.n,.int .i64 k.r.a,.int .i64 k.r.b,.int .i64 k.r.c] 115)) base sb o mv lv xs k (by rw[hB1.cell (p:=⟨sb,o,none⟩) hsb];exact c0) (hS.alloc _) hk;rw[decide_eq_true hx,<-HP.out]at hF0 hF1;rw[<-HP.out];go_enter func143,ntmps143;go_wp2_with (go_at_call 155;first|(refine hF0.mono ?_;rintro e w9 ⟨rfl,hB9⟩)|(refine hF1.mono ?_;rintro e w9 ⟨rfl,hB9⟩));go_ret2;exact⟨rfl,by first|exact hB9|exact hB1.trans (hB9.mono hB1.size)⟩
theorem Ol(w:World)(base sb o:Nat)(cs:List Value)(t:TypeId)(mv lv:Value)(xs:List A4)(k:A4)(hB:Ag w sb cs t)(h0:cs[o]? =some mv)(h1:cs[o+1]? =some lv)(hS:Bg w base mv lv xs)(hk:k.Wf)(hx:k∉xs)(hn:xs.length<=1000000000000)(ht:t≠115)(hbw:base<=w.heap.size):
 Calls prog 143 #[.pointer (some ⟨sb,o,none⟩),(.agg #[.int .i64 k.n,.int .i64 k.r.a,.int .i64 k.r.b,.int .i64 k.r.c])] w fun e w'=>e=.returned (.tuple #[.int .i64 xs.length,.bool true])/\
  ∃mv' lv',Ag w' sb ((cs.set o mv').set (o+1) lv') t/\Bg w' base mv' lv' (xs++[k])/\AV w w' sb mv lv mv' lv':=by
 have c0:w.cell? ⟨sb,o,none⟩=some mv:=(hB.cell o).trans h0;have hol:o+1<cs.length:=(List.getElem?_eq_some_iff.1 h1).1;have hkey:keyOf prog 115 (.agg #[.int .i64 k.n,.int .i64 k.r.a,.int .i64 k.r.b,.int .i64 k.r.c])=some (F0 k):=Im k hk;obtain⟨i1,hi1,hy0,hy1,hy2⟩:=info_parts Pt;obtain⟨pp,HP⟩:∃p:Int,Hid (p=(AR xs k:Nat)):=⟨_,rfl⟩;have hF:=Is (w.alloc (.cells #[.int .i64 k.n,.int .i64 k.r.a,.int .i64 k.r.b,.int .i64 k.r.c] 115)) base sb o mv lv xs k (((hB.alloc _).cell o).trans h0) (hS.alloc _) hk;rw[decide_eq_false hx,<-HP.out]at hF;obtain⟨ao,cap,rfl⟩:=Al hS.1
 have hwx:∀j∈xs++[k],j.Wf:=by
  intro j hj;rw[List.mem_append,List.mem_singleton]at hj;rcases hj with hj|rfl
  ·exact hS.2.1 j hj
  ·exact hk
 have hfl:((xs++[k]).flatMap fun k=>(Ba k))=(xs.flatMap fun k=>(Ba k))++(Ba k):=by simp
 have HX:=AJ hx;have hsT:sb≠w.heap.size:=by have:=hB.lt;omega
 have hBa:=Ac w (.cells #[.int .i64 k.n,.int .i64 k.r.a,.int .i64 k.r.b,.int .i64 k.r.c] 115);rcases hS.2.2 with⟨rfl,rfl⟩|⟨r,D,rfl,hr,hown,hD⟩
 ·have hnil:=fun w:World=>run_eql_map_nil (P:=prog) w 104 115 3 none underlying104;have hmm:=@run_makeMap prog;clear hx c0;go_enter func143,ntmps143;go_wp2_with (go_at_call 155;refine hF.mono ?_;rintro e w9 ⟨rfl,hB9⟩;have hBw:=(hB.alloc (.cells #[.int .i64 k.n,.int .i64 k.r.a,.int .i64 k.r.b,.int .i64 k.r.c] 115)).below hB9;have hSw:=(hS.alloc (.cells #[.int .i64 k.n,.int .i64 k.r.a,.int .i64 k.r.b,.int .i64 k.r.c] 115)).below hB9;have hT9:Ag w9 w.heap.size (Ba k) 115:=(Ag.new w (Ba k) 115).below hB9;have hsa:=hBa.trans (hB9.mono hBa.size);have hs9:=hsa.size;have hTl:=hT9.lt;have hslt:=hBw.lt;have f0:=hBw.frozen;have y0:w9.cell? ⟨w.heap.size,0,none⟩=some (.int .i64 k.n):=hT9.cell 0;have y1:w9.cell? ⟨w.heap.size,1,none⟩=some (.int .i64 k.r.a):=hT9.cell 1;have y2:w9.cell? ⟨w.heap.size,2,none⟩=some (.int .i64 k.r.b):=hT9.cell 2;have y3:w9.cell? ⟨w.heap.size,3,none⟩=some (.int .i64 k.r.c):=hT9.cell 3;have g0:w9.cell? ⟨sb,o,none⟩=some (.map none):=(hBw.cell o).trans h0;have g1:w9.cell? ⟨sb,o+1,none⟩=some (.slice ao 0 cap):=(hBw.cell (o+1)).trans h1;have hsne:sb≠w9.heap.size:=(by omega));have hmade:=F8 w9 115 (plainElem prog 3) ⟨sb,o,none⟩;have hB0:Ag ((w9.setCell ⟨sb,o,none⟩ (.map (some w9.heap.size))).alloc (.map #[] 0)) sb (cs.set o (.map (some w9.heap.size))) t:=(hBw.setCell o (.map (some w9.heap.size))).alloc (.map #[] 0);have hT0:Ag ((w9.setCell ⟨sb,o,none⟩ (.map (some w9.heap.size))).alloc (.map #[] 0)) w.heap.size (Ba k) 115:=(hT9.setOther ⟨sb,o,none⟩ _ (Ne.symm hsT)).alloc (.map #[] 0);have hlr:=Dl hSw.1 (k:=w9.heap.size) (Nat.le_refl _);have hL0:=(AM hSw.1 ⟨sb,o,none⟩ (.map (some w9.heap.size)) (Ah hSw.1 hBw ht)).alloc (.map #[] 0);obtain⟨w1,hr1,hown1,hg1⟩:=World.ownsMap.update (w:=((w9.setCell ⟨sb,o,none⟩ (.map (some w9.heap.size))).alloc (.map #[] 0)).drew) (by exact hmade) NV underlying104 (by unfold maxLen;omega) hkey (plainElem_int underlying3 (a:=0) (by decide));have hB1:=hB0.drew.grown hg1 (by simpa using hsne.symm);have hT1:=hT0.drew.grown hg1 (by simp;omega);have hL1:w1.ownsRow base 115 4 (.slice ao 0 cap) 0 []:=World.ownsRow.kept (by exact hL0) hg1 (.inr hlr);have d0:w1.cell? ⟨sb,o,none⟩=some (.map (some w9.heap.size)):=by rw[hB1.cell o,List.getElem?_set_self (by omega)]
  have d1:w1.cell? ⟨sb,o+1,none⟩=some (.slice ao 0 cap):=by rw[hB1.cell (o+1),List.getElem?_set_ne (by omega)];exact h1
  have fB:=hB1.frozen;have hl1:=hB1.lt;have hTl1:=hT1.lt;have z0:w1.cell? ⟨w.heap.size,0,none⟩=some (.int .i64 k.n):=hT1.cell 0;have z1:w1.cell? ⟨w.heap.size,1,none⟩=some (.int .i64 k.r.a):=hT1.cell 1;have z2:w1.cell? ⟨w.heap.size,2,none⟩=some (.int .i64 k.r.b):=hT1.cell 2;have z3:w1.cell? ⟨w.heap.size,3,none⟩=some (.int .i64 k.r.c):=hT1.cell 3;go_region;have hL1a:(w1.alloc (.cells #[.int .i64 k.n,.int .i64 k.r.a,.int .i64 k.r.b,.int .i64 k.r.c] 115)).drew.ownsRow base 115 4 (.slice ao 0 cap) 0 []:=(by exact hL1.alloc _);have hnews:∀j u,((Ba k))[j]? =some u->(w1.alloc (.cells #[.int .i64 k.n,.int .i64 k.r.a,.int .i64 k.r.b,.int .i64 k.r.c] 115)).drew.cell? ((⟨w1.heap.size,0,none⟩:Addr).add j)=some u:=(by exact AP w1 (Ba k) 115);have hone:∀u∈(Ba k),u.oneCell'=true:=(by intro u hu;simp[Ba,Ak]at hu;rcases hu with rfl|rfl|rfl|rfl<;>rfl);have hbb:base<=(w1.alloc (.cells #[.int .i64 k.n,.int .i64 k.r.a,.int .i64 k.r.b,.int .i64 k.r.c] 115)).drew.heap.size:=by have:=hg1.size;simp at this;simp;omega
  go_wp2_with fail
  go_region_law (refine Bz _ rfl (.tmp 41) (.tmp 43) 105 rfl base 115 i1 _ 4 32 underlying105 hi1 hy0 hy1 hy2 rfl (by decide) (.slice ao 0 cap) 0 [] (by simp[Act.eval]) hL1a ⟨w1.heap.size,0,none⟩ 1 1 (Ba k) (by simp[Act.eval]) (by decide) rfl hnews hone (by unfold maxLen;omega) (by omega) hbb ?_;intro g cap2 w2 hL2 hg2 hwh;have hB2:=(hB1.alloc (.cells #[.int .i64 k.n,.int .i64 k.r.a,.int .i64 k.r.b,.int .i64 k.r.c] 115)).drew.grown hg2 (Ah hL1 hB1 ht);have e1:w2.cell? ⟨sb,o+1,none⟩=some (.slice ao 0 cap):=(by rw[hB2.cell (o+1),List.getElem?_set_ne (by omega)];exact h1);have fB2:=hB2.frozen)
  all_goals
   go_wp2_with fail;go_ret2;have hb1:base<=w1.heap.size:=by have:=hg1.size;simp at this;omega
   refine⟨rfl,.map (some w9.heap.size),.slice (some ⟨g,0,none⟩) 1 cap2,hB2.setCell (o+1) _,⟨?_,hwx,.inr ⟨w9.heap.size,_,rfl,by omega,?_,E4.nil.put k hk HX.out⟩⟩,?_⟩
   ·simpa using AM hL2 ⟨sb,o+1,none⟩ _ (Ah hL2 hB2 ht)
   ·have h2:=World.ownsMap.kept (w:=(w1.alloc (.cells #[.int .i64 k.n,.int .i64 k.r.a,.int .i64 k.r.b,.int .i64 k.r.c] 115)).drew) (by exact hown1.alloc _) hg2 (Ne.symm hlr);simpa using Cc h2 (An.setCell (b:=sb) w2 (p:=⟨sb,o+1,none⟩) rfl _) hsne.symm
   ·have hg1s:=hg1.size;have hg2s:=hg2.size;simp at hg1s hg2s;have k1:Ax (fun q=>q=sb\/Af (.map none)=some q\/(Value.slice ao 0 cap).ownBlock=some q) w w1:=(((Ax.of_below hsa).setCell (p:=⟨sb,o,none⟩) (.inl (.inl rfl)) _).alloc _).drew.grown hg1 (fun q hq=>.inr (by simp at hq;omega));refine⟨((k1.alloc _).drew.grown hg2 (fun q hq=>.inl (.inr (.inr hq)))).setCell (p:=⟨sb,o+1,none⟩) (.inl (.inl rfl)) _,.inr (fun q hq=>by simp[Af]at hq;omega),?_⟩;rcases hwh with hw|hw
    ·exact .inl hw
    ·exact .inr (fun q hq=>by simp[Value.ownBlock]at hq;simp at hw;omega)
 ·obtain⟨hh,ha⟩:=hD.2 k hk;rw[decide_eq_false hx]at hh;have hnil:=fun w:World=>run_eql_map_nil (P:=prog) w 104 115 3 (some r) underlying104;have hwf:(Lit.int .i64 (xs.length:Int)).wf=true:=WalkArith.wf_i64 (n:=(xs.length:Int)) ⟨by omega,by omega⟩;clear hx c0;go_enter func143,ntmps143;go_wp2_with (go_at_call 155;refine hF.mono ?_;rintro e w9 ⟨rfl,hB9⟩;have hBw:=(hB.alloc (.cells #[.int .i64 k.n,.int .i64 k.r.a,.int .i64 k.r.b,.int .i64 k.r.c] 115)).below hB9;have hSw:=(hS.alloc (.cells #[.int .i64 k.n,.int .i64 k.r.a,.int .i64 k.r.b,.int .i64 k.r.c] 115)).below hB9;have hT9:Ag w9 w.heap.size (Ba k) 115:=(Ag.new w (Ba k) 115).below hB9;have hsa:=hBa.trans (hB9.mono hBa.size);have hs9:=hsa.size;have hTl:=hT9.lt;have hslt:=hBw.lt;have f0:=hBw.frozen;have y0:w9.cell? ⟨w.heap.size,0,none⟩=some (.int .i64 k.n):=hT9.cell 0;have y1:w9.cell? ⟨w.heap.size,1,none⟩=some (.int .i64 k.r.a):=hT9.cell 1;have y2:w9.cell? ⟨w.heap.size,2,none⟩=some (.int .i64 k.r.b):=hT9.cell 2;have y3:w9.cell? ⟨w.heap.size,3,none⟩=some (.int .i64 k.r.c):=hT9.cell 3;have g0:w9.cell? ⟨sb,o,none⟩=some (.map (some r)):=(hBw.cell o).trans h0;have g1:w9.cell? ⟨sb,o+1,none⟩=some (.slice ao xs.length cap):=(hBw.cell (o+1)).trans h1);have hown9:=Cj (hown.alloc (.cells #[.int .i64 k.n,.int .i64 k.r.a,.int .i64 k.r.b,.int .i64 k.r.c] 115)) hB9;have hsr:=Cb hown9 hBw;have hTr:=Cb hown9 hT9;have hlr:=DC hown9 hSw.1;obtain⟨w1,hr1,hown1,hg1⟩:=World.ownsMap.update (w:=w9.drew) (by exact hown9) NV underlying104 (by unfold maxLen;omega) hkey (plainElem_int underlying3 (a:=(xs.length:Int)) hwf);have hB1:=hBw.drew.grown hg1 (by simpa using hsr.symm);have hT1:=hT9.drew.grown hg1 (by simpa using hTr.symm);have hL1:w1.ownsRow base 115 4 (.slice ao xs.length cap) xs.length (xs.flatMap fun k=>(Ba k)):=World.ownsRow.kept (by exact hSw.1) hg1 (.inr hlr);have d1:w1.cell? ⟨sb,o+1,none⟩=some (.slice ao xs.length cap):=(hB1.cell (o+1)).trans h1;have fB:=hB1.frozen;have hl1:=hB1.lt;have hTl1:=hT1.lt;have z0:w1.cell? ⟨w.heap.size,0,none⟩=some (.int .i64 k.n):=hT1.cell 0;have z1:w1.cell? ⟨w.heap.size,1,none⟩=some (.int .i64 k.r.a):=hT1.cell 1;have z2:w1.cell? ⟨w.heap.size,2,none⟩=some (.int .i64 k.r.b):=hT1.cell 2;have z3:w1.cell? ⟨w.heap.size,3,none⟩=some (.int .i64 k.r.c):=hT1.cell 3;go_region;have hL1a:(w1.alloc (.cells #[.int .i64 k.n,.int .i64 k.r.a,.int .i64 k.r.b,.int .i64 k.r.c] 115)).drew.ownsRow base 115 4 (.slice ao xs.length cap) xs.length (xs.flatMap fun k=>(Ba k)):=(by exact hL1.alloc _);have hnews:∀j u,((Ba k))[j]? =some u->(w1.alloc (.cells #[.int .i64 k.n,.int .i64 k.r.a,.int .i64 k.r.b,.int .i64 k.r.c] 115)).drew.cell? ((⟨w1.heap.size,0,none⟩:Addr).add j)=some u:=(by exact AP w1 (Ba k) 115);have hone:∀u∈(Ba k),u.oneCell'=true:=(by intro u hu;simp[Ba,Ak]at hu;rcases hu with rfl|rfl|rfl|rfl<;>rfl);have hbb:base<=(w1.alloc (.cells #[.int .i64 k.n,.int .i64 k.r.a,.int .i64 k.r.b,.int .i64 k.r.c] 115)).drew.heap.size:=by have:=hg1.size;simp at this;simp;omega
  go_wp2_with fail
  go_region_law (refine Bz _ rfl (.tmp 41) (.tmp 43) 105 rfl base 115 i1 _ 4 32 underlying105 hi1 hy0 hy1 hy2 rfl (by decide) (.slice ao xs.length cap) xs.length (xs.flatMap fun k=>(Ba k)) (by simp[Act.eval]) hL1a ⟨w1.heap.size,0,none⟩ 1 1 (Ba k) (by simp[Act.eval]) (by decide) rfl hnews hone (by unfold maxLen;omega) (by omega) hbb ?_;intro g cap2 w2 hL2 hg2 hwh;have hB2:=(hB1.alloc (.cells #[.int .i64 k.n,.int .i64 k.r.a,.int .i64 k.r.b,.int .i64 k.r.c] 115)).drew.grown hg2 (Ah hL1 hB1 ht);have e1:w2.cell? ⟨sb,o+1,none⟩=some (.slice ao xs.length cap):=((hB2.cell (o+1)).trans h1);have fB2:=hB2.frozen)
  all_goals
   go_wp2_with fail;go_ret2;have hgs1:=hg1.size;have hgs2:=hg2.size;simp at hgs1 hgs2;have hse:cs.set o (.map (some r))=cs:=by obtain⟨hl0,he0⟩:=List.getElem?_eq_some_iff.1 h0;rw[<-he0,List.set_getElem_self]
   refine⟨rfl,.map (some r),.slice (some ⟨g,0,none⟩) (xs.length+1) cap2,by rw[hse];exact hB2.setCell (o+1) _,⟨?_,hwx,.inr ⟨r,_,rfl,hr,?_,hD.put k hk HX.out⟩⟩,?_⟩
   ·rw[hfl];simpa using AM hL2 ⟨sb,o+1,none⟩ _ (Ah hL2 hB2 ht)
   ·have h2:=World.ownsMap.kept (w:=(w1.alloc (.cells #[.int .i64 k.n,.int .i64 k.r.a,.int .i64 k.r.b,.int .i64 k.r.c] 115)).drew) (by exact hown1.alloc _) hg2 (Ne.symm hlr);simpa using Cc h2 (An.setCell (b:=sb) w2 (p:=⟨sb,o+1,none⟩) rfl _) hsr.symm
   ·have k1:Ax (fun q=>q=sb\/Af (.map (some r))=some q\/(Value.slice ao xs.length cap).ownBlock=some q) w w1:=(Ax.of_below hsa).drew.grown hg1 (fun q hq=>.inl (.inr (.inl hq)));refine⟨((k1.alloc _).drew.grown hg2 (fun q hq=>.inl (.inr (.inr hq)))).setCell (p:=⟨sb,o+1,none⟩) (.inl (.inl rfl)) _,.inl rfl,?_⟩;rcases hwh with hw|hw
    ·exact .inl hw
    ·exact .inr (fun q hq=>by simp[Value.ownBlock]at hq;simp at hw;omega)
theorem Oq(w:World)(base sb o:Nat)(cs:List Value)(t:TypeId)(mv lv:Value)(xs:List A4)(k:A4)(hB:Ag w sb cs t)(h0:cs[o]? =some mv)(h1:cs[o+1]? =some lv)(hS:Bg w base mv lv xs)(hk:k.Wf)(hn:xs.length<=1000000000000)(ht:t≠115)(hbw:base<=w.heap.size):
 Calls prog 143 #[.pointer (some ⟨sb,o,none⟩),(.agg #[.int .i64 k.n,.int .i64 k.r.a,.int .i64 k.r.b,.int .i64 k.r.c])] w fun e w'=>e=.returned (.tuple #[.int .i64 (AR (A7 xs k) k:Nat),.bool (decide (k∉xs))])/\
  ∃mv' lv',Ag w' sb ((cs.set o mv').set (o+1) lv') t/\Bg w' base mv' lv' (A7 xs k)/\AV w w' sb mv lv mv' lv':=by
 by_cases hx:k∈xs
 ·refine(Og w base sb o mv lv xs k ((hB.cell o).trans h0) hS hk hx).mono ?_;rintro e w' ⟨rfl,hB'⟩;refine⟨by simp[A7,hx],mv,lv,?_,?_,AV.still hB' sb mv lv⟩
  ·rw[F6 cs o mv lv h0 h1];exact hB.below hB'
  ·rw[A7,if_pos hx];exact hS.below hB'
 ·refine(Ol w base sb o cs t mv lv xs k hB h0 h1 hS hk hx hn ht hbw).mono ?_;rintro e w' ⟨rfl,mv',lv',a,b,c⟩;refine⟨?_,mv',lv',a,?_,c⟩
  ·rw[A7,if_neg hx,CE xs k hx];simp[hx]
  ·rw[A7,if_neg hx];exact b
end
end Go.Proofs.YtpbfiffgcgnidaaGreat
