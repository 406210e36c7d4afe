import Derived.Test.YtpbfiffgcgnidaaGreatYal
import Derived.Test.YtpbfiffgcgnidaaGreatY12
namespace Go.Proofs.YtpbfiffgcgnidaaGreat
set_option maxRecDepth 100000
set_option maxHeartbeats 4000000
set_option linter.unusedSimpArgs false
open Go.Proofs.Tryz
section
attribute [local go_sem] drewN_alloc drewN_setCell
open Go.RowKit Go.WideMaps Go.Maps
def MapOfS(D:DataW Unit)(xs:List B8):Prop:=
 IsMap D/\∀k:B8,k.length<=maxLen->Maps.has D (Lit.string k)=decide (k∈xs)/\D.atKey (Lit.string k) (.lit (.int .i64 0))=.lit (.int .i64 (posG xs k))
theorem MapOfS.nil:MapOfS (.map []) []:=⟨isMap_empty,fun _ _=>⟨rfl,rfl⟩⟩
theorem MapOfS.put{D:DataW Unit}{xs:List B8}(h:MapOfS D xs)(k:B8)(hw:k.length<=maxLen)(hk:k∉xs):MapOfS (D.put (Lit.string k) (.lit (.int .i64 xs.length))) (xs++[k]):=by
 refine⟨h.1.put _ _,fun j hj=>?_⟩;by_cases he:j=k
 ·subst he;rw[has_put_same h.1 (keyS j),atKey_put_same h.1 (keyS j),posG_new xs j hk];exact⟨by simp,rfl⟩
 ·have hne:(Lit.string j)≠(Lit.string k):=fun e=>he (injS j k hj hw e);rw[has_put_other hne,atKey_put_other hne,(h.2 j hj).1,(h.2 j hj).2,posG_old xs k j he];exact⟨by simp[he],rfl⟩
def SetIsS(w:World)(base:Nat)(mv lv:Value)(xs:List B8):Prop:=
 w.ownsRow base 9 1 lv xs.length (xs.flatMap fun k=>[Value.string (bs k)])/\(∀k∈xs,k.length<=maxLen)/\
 ((mv=.map none/\xs=[])\/∃r D,mv=.map (some r)/\base<=r/\w.ownsMap (H:=Unit) prog 9 (plainElem prog 3) r xs.length D/\MapOfS D xs)
theorem SetIsS.nil(w:World)(base:Nat):SetIsS w base (.map none) (.slice none 0 0) []:=⟨World.ownsRow_nil _ _ _ _,by simp,.inl ⟨rfl,rfl⟩⟩
theorem SetIsS.below{base:Nat}{w w':World}{mv lv:Value}{xs:List B8}(h:SetIsS w base mv lv xs)(hb:Below w.heap.size w w'):SetIsS w' base mv lv xs:=by
 refine⟨own_below h.1 hb,h.2.1,?_⟩;rcases h.2.2 with h2|⟨r,D,hm,hr,ho,hD⟩
 ·exact .inl h2
 ·exact .inr ⟨r,D,hm,hr,map_below ho hb,hD⟩
theorem SetIsS.only{S:Nat->Prop}{base:Nat}{w w':World}{mv lv:Value}{xs:List B8}(h:SetIsS w base mv lv xs)(ho:Only S w w')(hl:∀q,lv.ownBlock=some q->¬S q)(hm:∀q,mapBlock mv=some q->¬S q):SetIsS w' base mv lv xs:=by
 refine⟨own_only h.1 ho hl,h.2.1,?_⟩;rcases h.2.2 with h2|⟨r,D,rfl,hr,hw,hD⟩
 ·exact .inl h2
 ·exact .inr ⟨r,D,rfl,hr,map_only hw ho (hm r rfl),hD⟩
theorem SetIsS.lt{base:Nat}{w:World}{mv lv:Value}{xs:List B8}(h:SetIsS w base mv lv xs):(∀q,lv.ownBlock=some q->base<=q/\q<w.heap.size)/\∀q,mapBlock mv=some q->base<=q/\q<w.heap.size:=by
 refine⟨fun q hq=>h.1.lt q hq,?_⟩;rcases h.2.2 with⟨rfl,_⟩|⟨r,D,rfl,hr,hw,hD⟩
 ·intro q hq;simp[mapBlock]at hq
 ·intro q hq;simp only[mapBlock,Option.some.injEq]at hq;subst hq;exact⟨hr,hw.lt⟩
theorem SetIsS.alloc{base:Nat}{w:World}{mv lv:Value}{xs:List B8}(h:SetIsS w base mv lv xs)(o:Obj):SetIsS (w.alloc o) base mv lv xs:=h.below (below_alloc w o)
theorem findS_c(w:World)(base sb o:Nat)(mv lv:Value)(xs:List B8)(k:B8)(c0:w.cell? ⟨sb,o,none⟩=some mv)(hS:SetIsS w base mv lv xs)(hk:k.length<=maxLen):
 Calls prog 34 #[.pointer (some ⟨sb,o,none⟩),(.string (bs k))] w fun e w'=>e=.returned (.tuple #[.int .i64 (posG xs k:Nat),.bool (decide (k∈xs))])/\Below w.heap.size w w':=by
 have hkey:keyOf prog 9 (.string (bs k))=some (Lit.string k):=keyOfS k hk;have hsb:=blk_in c0;have hB0:=Below.refl w.heap.size w;have hB1:=below_alloc w (.cells #[.string (bs k)] 9);rcases hS.2.2 with⟨rfl,rfl⟩|⟨r,D,rfl,hr,hown,hD⟩
 ·have hnil:=fun w:World=>look_nil (w:=w) true lawS underlying98 (zero3 w) hkey;go_enter func34,ntmps34;go_wp2;go_ret2;exact⟨rfl,by first|exact hB0|exact hB1.drew⟩
 ·obtain⟨hh,ha⟩:=hD.2 k hk;obtain⟨p,HP⟩:∃p:Int,Hid (p=(posG xs k:Nat)):=⟨_,rfl⟩;rw[<-HP.out]at ha⊢;have look:∀W:World,W.ownsMap (H:=Unit) prog 9 (plainElem prog 3) r xs.length D->(Instr.lookup 98 (.map (some r)) (.string (bs k)) true).run prog W=.ok (.tuple #[.int .i64 p,.bool (decide (k∈xs))]) W:=by intro W hW;obtain⟨v,ps,hrun,hR⟩:=hW.look_ok lawS underlying98 (zero3 W) (plainElem_int underlying3 (by decide)) hkey;obtain⟨c,rfl,hc,_⟩:=plainElem_int_inv underlying3 hR;have e:=congrArg Prod.fst hc;simp only[]at e;rw[ha]at e;simp at e;rw[hrun,hh,<-e]
  have l0:=look w hown;have l1:=look (w.alloc (.cells #[.string (bs k)] 9)).drew (by exact hown.alloc _);clear look;go_enter func34,ntmps34;go_wp2;go_ret2;exact⟨rfl,by first|exact hB0|exact hB1.drew⟩
theorem addOldS(w:World)(base sb o:Nat)(mv lv:Value)(xs:List B8)(k:B8)(c0:w.cell? ⟨sb,o,none⟩=some mv)(hS:SetIsS w base mv lv xs)(hk:k.length<=maxLen)(hx:k∈xs):
 Calls prog 52 #[.pointer (some ⟨sb,o,none⟩),(.string (bs k))] w fun e w'=>e=.returned (.tuple #[.int .i64 (posG xs k),.bool false])/\Below w.heap.size w w':=by
 obtain⟨p,HP⟩:∃p:Int,Hid (p=(posG xs k:Nat)):=⟨_,rfl⟩;have hsb:=blk_in c0;have hB1:=below_alloc w (.cells #[.string (bs k)] 9);have hF0:=findS_c w base sb o mv lv xs k c0 hS hk;have hF1:=findS_c (w.alloc (.cells #[.string (bs k)] 9)) base sb o mv lv xs k (by rw[hB1.cell (p:=⟨sb,o,none⟩) hsb];exact c0) (hS.alloc _) hk;rw[decide_eq_true hx,<-HP.out]at hF0 hF1;rw[<-HP.out];go_enter func52,ntmps52;go_wp2_with (go_at_call 34;first|(refine hF0.mono ?_;rintro e w9 ⟨rfl,hB9⟩)|(refine hF1.mono ?_;rintro e w9 ⟨rfl,hB9⟩));go_ret2;exact⟨rfl,by first|exact hB9|exact hB1.trans (hB9.mono hB1.size)⟩
theorem addNewS(w:World)(base sb o:Nat)(cs:List Value)(t:TypeId)(mv lv:Value)(xs:List B8)(k:B8)(hB:Blk w sb cs t)(h0:cs[o]? =some mv)(h1:cs[o+1]? =some lv)(hS:SetIsS w base mv lv xs)(hk:k.length<=maxLen)(hx:k∉xs)(hn:xs.length<=1000000000000)(ht:t≠9)(hbw:base<=w.heap.size):
 Calls prog 52 #[.pointer (some ⟨sb,o,none⟩),(.string (bs k))] w fun e w'=>e=.returned (.tuple #[.int .i64 xs.length,.bool true])/\
  ∃mv' lv',Blk w' sb ((cs.set o mv').set (o+1) lv') t/\SetIsS w' base mv' lv' (xs++[k])/\AddFrame w w' sb mv lv mv' lv':=by
 have c0:w.cell? ⟨sb,o,none⟩=some mv:=(hB.cell o).trans h0;have hol:o+1<cs.length:=(List.getElem?_eq_some_iff.1 h1).1;have hkey:keyOf prog 9 (.string (bs k))=some (Lit.string k):=keyOfS k hk;obtain⟨i1,hi1,hy0,hy1,hy2⟩:=info_parts infoS;obtain⟨pp,HP⟩:∃p:Int,Hid (p=(posG xs k:Nat)):=⟨_,rfl⟩;have hF:=findS_c w base sb o mv lv xs k c0 hS hk;rw[decide_eq_false hx,<-HP.out]at hF;obtain⟨ao,cap,rfl⟩:=own_form hS.1
 have hwx:∀j∈xs++[k],j.length<=maxLen:=by
  intro j hj;rw[List.mem_append,List.mem_singleton]at hj;rcases hj with hj|rfl
  ·exact hS.2.1 j hj
  ·exact hk
 have hfl:((xs++[k]).flatMap fun k=>[Value.string (bs k)])=(xs.flatMap fun k=>[Value.string (bs k)])++[Value.string (bs k)]:=by simp
 have HX:=hid hx;rcases hS.2.2 with⟨rfl,rfl⟩|⟨r,D,rfl,hr,hown,hD⟩
 ·have hnil:=fun w:World=>run_eql_map_nil (P:=prog) w 98 9 3 none underlying98;have hmm:=@run_makeMap prog;clear hx c0;go_enter func52,ntmps52;go_wp2_with (first|(go_at_call 34;refine hF.mono ?_;rintro e w9 ⟨rfl,hB9⟩;have hBw:=hB.below hB9;have hSw:=hS.below hB9;have hs9:=hB9.size;have g0:w9.cell? ⟨sb,o,none⟩=some (.map none):=(hBw.cell o).trans h0;have g1:w9.cell? ⟨sb,o+1,none⟩=some (.slice ao 0 cap):=(hBw.cell (o+1)).trans h1;have hslt:=hBw.lt;have f0:=hBw.frozen;have hsne:sb≠w9.heap.size:=(by omega);have hmade:((w9.setCell ⟨sb,o,none⟩ (.map (some w9.heap.size))).alloc (.map #[] 0)).ownsMap (H:=Unit) prog 9 (plainElem prog 3) w9.heap.size 0 (.map []):=(made_at _ _ _ _);have hB0:Blk ((w9.setCell ⟨sb,o,none⟩ (.map (some w9.heap.size))).alloc (.map #[] 0)) sb (cs.set o (.map (some w9.heap.size))) t:=(hBw.setCell o (.map (some w9.heap.size))).alloc (.map #[] 0);have hlr:=own_lt_ne hSw.1 (k:=w9.heap.size) (Nat.le_refl _);have hL0:=(own_set hSw.1 ⟨sb,o,none⟩ (.map (some w9.heap.size)) (own_ne hSw.1 hBw ht)).alloc (.map #[] 0))|(at_mapUpdate;refine wpList_mapUpdate_own _ rfl _ _ _ 98 rfl 9 3 lawS underlying98 _ w9.heap.size 0 (.map []) rfl hmade (by unfold maxLen;omega) _ _ _ rfl rfl hkey _ [] (plainElem_int underlying3 (by decide)) ?_;intro w1 hown1 hg1;have hB1:=hB0.grown hg1 (by simpa using hsne.symm);have hL1:=hL0.kept hg1 (.inr hlr);have d0:w1.cell? ⟨sb,o,none⟩=some (.map (some w9.heap.size)):=(by rw[hB1.cell o,List.getElem?_set_self (by omega)]);have d1:w1.cell? ⟨sb,o+1,none⟩=some (.slice ao 0 cap):=(by rw[hB1.cell (o+1),List.getElem?_set_ne (by omega)];exact h1);have fB:=hB1.frozen;have hl1:=hB1.lt)|(at_builtin;refine wpList_append_at _ rfl _ _ 31 rfl base 9 i1 _ 1 16 underlying31 hi1 hy0 hy1 hy2 rfl (by decide) _ 0 [] rfl (hL1.alloc _) ⟨w1.heap.size,0,none⟩ 1 1 [Value.string (bs k)] rfl (by decide) rfl (new_cells _ _ _) (by intro u hu;simp at hu;subst hu;rfl) (by unfold maxLen;omega) (by omega) (by have:=hg1.size;simp at this;simp;omega) ?_;intro g cap2 w2 hL2 hg2 hwh;have hB2:=(hB1.alloc _).grown hg2 (own_ne hL1 hB1 ht);have e1:w2.cell? ⟨sb,o+1,none⟩=some (.slice ao 0 cap):=(by rw[hB2.cell (o+1),List.getElem?_set_ne (by omega)];exact h1);have fB2:=hB2.frozen));go_ret2;have hb1:base<=w1.heap.size:=by have:=hg1.size;simp at this;omega
  refine⟨rfl,.map (some w9.heap.size),.slice (some ⟨g,0,none⟩) 1 cap2,hB2.setCell (o+1) _,⟨?_,hwx,.inr ⟨w9.heap.size,_,rfl,by omega,?_,MapOfS.nil.put k hk HX.out⟩⟩,?_⟩
  ·simpa using own_set hL2 ⟨sb,o+1,none⟩ _ (own_ne hL2 hB2 ht)
  ·have h2:=(hown1.alloc _).kept hg2 (Ne.symm hlr);simpa using map_kept h2 (Kept.setCell (b:=sb) w2 (p:=⟨sb,o+1,none⟩) rfl _) hsne.symm
  ·have hg1s:=hg1.size;have hg2s:=hg2.size;simp at hg1s hg2s;have k1:Only (fun q=>q=sb\/mapBlock (.map none)=some q\/(Value.slice ao 0 cap).ownBlock=some q) w w1:=(((Only.of_below hB9).setCell (p:=⟨sb,o,none⟩) (.inl (.inl rfl)) _).alloc _).grown hg1 (fun q hq=>.inr (by simp at hq;omega));refine⟨((k1.alloc _).grown hg2 (fun q hq=>.inl (.inr (.inr hq)))).setCell (p:=⟨sb,o+1,none⟩) (.inl (.inl rfl)) _,.inr (fun q hq=>by simp[mapBlock]at hq;omega),?_⟩;rcases hwh with hw|hw
   ·exact .inl hw
   ·exact .inr (fun q hq=>by simp[Value.ownBlock]at hq;simp at hw;omega)
 ·obtain⟨hh,ha⟩:=hD.2 k hk;rw[decide_eq_false hx]at hh;have hnil:=fun w:World=>run_eql_map_nil (P:=prog) w 98 9 3 (some r) underlying98;have hwf:(Lit.int .i64 (xs.length:Int)).wf=true:=WalkArith.wf_i64 (n:=(xs.length:Int)) ⟨by omega,by omega⟩;clear hx c0;go_enter func52,ntmps52;go_wp2_with (first|(go_at_call 34;refine hF.mono ?_;rintro e w9 ⟨rfl,hB9⟩;have hBw:=hB.below hB9;have hSw:=hS.below hB9;have hs9:=hB9.size;have g0:w9.cell? ⟨sb,o,none⟩=some (.map (some r)):=(hBw.cell o).trans h0;have g1:w9.cell? ⟨sb,o+1,none⟩=some (.slice ao xs.length cap):=(hBw.cell (o+1)).trans h1;have hslt:=hBw.lt;have f0:=hBw.frozen;have hown9:=map_below hown hB9;have hsr:=map_ne hown9 hBw;have hlr:=map_row hown9 hSw.1)|(at_mapUpdate;refine wpList_mapUpdate_own _ rfl _ _ _ 98 rfl 9 3 lawS underlying98 _ r xs.length D rfl hown9 (by unfold maxLen;omega) _ _ _ rfl rfl hkey _ [] (plainElem_int underlying3 hwf) ?_;intro w1 hown1 hg1;have hB1:=hBw.grown hg1 (by simpa using hsr.symm);have hL1:=hSw.1.kept hg1 (.inr hlr);have d1:w1.cell? ⟨sb,o+1,none⟩=some (.slice ao xs.length cap):=((hB1.cell (o+1)).trans h1);have fB:=hB1.frozen;have hl1:=hB1.lt)|(at_builtin;refine wpList_append_at _ rfl _ _ 31 rfl base 9 i1 _ 1 16 underlying31 hi1 hy0 hy1 hy2 rfl (by decide) _ xs.length _ rfl (hL1.alloc _) ⟨w1.heap.size,0,none⟩ 1 1 [Value.string (bs k)] rfl (by decide) rfl (new_cells _ _ _) (by intro u hu;simp at hu;subst hu;rfl) (by unfold maxLen;omega) (by omega) (by have:=hg1.size;simp;omega) ?_;intro g cap2 w2 hL2 hg2 hwh;have hB2:=(hB1.alloc _).grown hg2 (own_ne hL1 hB1 ht);have e1:w2.cell? ⟨sb,o+1,none⟩=some (.slice ao xs.length cap):=((hB2.cell (o+1)).trans h1);have fB2:=hB2.frozen));go_ret2;have hgs1:=hg1.size;have hgs2:=hg2.size;simp at hgs2;have hse:cs.set o (.map (some r))=cs:=by obtain⟨hl0,he0⟩:=List.getElem?_eq_some_iff.1 h0;rw[<-he0,List.set_getElem_self]
  refine⟨rfl,.map (some r),.slice (some ⟨g,0,none⟩) (xs.length+1) cap2,by rw[hse];exact hB2.setCell (o+1) _,⟨?_,hwx,.inr ⟨r,_,rfl,hr,?_,hD.put k hk HX.out⟩⟩,?_⟩
  ·rw[hfl];simpa using own_set hL2 ⟨sb,o+1,none⟩ _ (own_ne hL2 hB2 ht)
  ·have h2:=(hown1.alloc _).kept hg2 (Ne.symm hlr);simpa using map_kept h2 (Kept.setCell (b:=sb) w2 (p:=⟨sb,o+1,none⟩) rfl _) hsr.symm
  ·have k1:Only (fun q=>q=sb\/mapBlock (.map (some r))=some q\/(Value.slice ao xs.length cap).ownBlock=some q) w w1:=(Only.of_below hB9).grown hg1 (fun q hq=>.inl (.inr (.inl hq)));refine⟨((k1.alloc _).grown hg2 (fun q hq=>.inl (.inr (.inr hq)))).setCell (p:=⟨sb,o+1,none⟩) (.inl (.inl rfl)) _,.inl rfl,?_⟩;rcases hwh with hw|hw
   ·exact .inl hw
   ·exact .inr (fun q hq=>by simp[Value.ownBlock]at hq;simp at hw;omega)
theorem addAnyS(w:World)(base sb o:Nat)(cs:List Value)(t:TypeId)(mv lv:Value)(xs:List B8)(k:B8)(hB:Blk w sb cs t)(h0:cs[o]? =some mv)(h1:cs[o+1]? =some lv)(hS:SetIsS w base mv lv xs)(hk:k.length<=maxLen)(hn:xs.length<=1000000000000)(ht:t≠9)(hbw:base<=w.heap.size):
 Calls prog 52 #[.pointer (some ⟨sb,o,none⟩),(.string (bs k))] w fun e w'=>e=.returned (.tuple #[.int .i64 (posG (addG xs k) k:Nat),.bool (decide (k∉xs))])/\
  ∃mv' lv',Blk w' sb ((cs.set o mv').set (o+1) lv') t/\SetIsS w' base mv' lv' (addG xs k)/\AddFrame w w' sb mv lv mv' lv':=by
 by_cases hx:k∈xs
 ·refine(addOldS w base sb o mv lv xs k ((hB.cell o).trans h0) hS hk hx).mono ?_;rintro e w' ⟨rfl,hB'⟩;refine⟨by simp[addG,hx],mv,lv,?_,?_,AddFrame.still hB' sb mv lv⟩
  ·rw[set_two cs o mv lv h0 h1];exact hB.below hB'
  ·rw[addG,if_pos hx];exact hS.below hB'
 ·refine(addNewS w base sb o cs t mv lv xs k hB h0 h1 hS hk hx hn ht hbw).mono ?_;rintro e w' ⟨rfl,mv',lv',a,b,c⟩;refine⟨?_,mv',lv',a,?_,c⟩
  ·rw[addG,if_neg hx,posG_new xs k hx];simp[hx]
  ·rw[addG,if_neg hx];exact b
end
end Go.Proofs.YtpbfiffgcgnidaaGreat
