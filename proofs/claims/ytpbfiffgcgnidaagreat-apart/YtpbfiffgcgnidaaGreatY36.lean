import Derived.Test.YtpbfiffgcgnidaaGreatYal
import Derived.Test.YtpbfiffgcgnidaaGreatY30
import Derived.Test.YtpbfiffgcgnidaaGreatY31
import Derived.Test.YtpbfiffgcgnidaaGreatY32
namespace Go.Proofs.YtpbfiffgcgnidaaGreat
set_option maxRecDepth 100000
set_option maxHeartbeats 4000000
set_option linter.unusedSectionVars false
set_option linter.unusedSimpArgs false
open Go.Proofs.Tryz
section
attribute [local go_sem] drewN_alloc drewN_setCell
open Go.RowKit Go.WideMaps Go.Maps
variable [DecidableEq R3] [DecidableEq A4]
theorem newVars{w:World}{own:OwnF}{base tb:Nat}{V:TV}{D:TD}{qs:List A4}{S:List TabD}{sz vb:Nat}(h:TIs w own base tb V D qs S sz)(hn:own vb=none)(hb:base<=vb)(hB:Blk w vb [.map none,.slice none 0 0] 100):TIs w (ownNew own (5,0) vb) base tb V D qs S sz/\VarIs w (ownNew own (5,0) vb) base vb [] (.map none) (.slice none 0 0):=by
 have he:OwnExt vb own (ownNew own (5,0) vb):=by
  refine⟨fun q o e=>?_,fun q o e=>?_⟩
  ·unfold ownNew;rw[if_neg (fun e'=>by rw[e',hn]at e;cases e)];exact e
  ·unfold ownNew at e
   split at e
   ·exact .inr (by omega)
   ·exact .inl e
 have hl:=hB.lt
 have hk:OwnOk (ownNew own (5,0) vb) base w:=by
  refine⟨fun q o e=>?_,h.ok.base,fun q s e=>?_⟩
  ·unfold ownNew at e
   split at e
   ·omega
   ·exact h.ok.lt q o e
  ·unfold ownNew at e
   split at e
   ·simp at e
   ·exact h.ok.se q s e
 exact⟨h.only (P:=fun _=>False) (Only.of_below (Below.refl _ _)) he hk (fun _ _ _ _ _ e=>e),⟨hB,SetIsS.nil _ _,ownNew_own _ _ _,Owns.nil_map _ _,Owns.nil_slice _ _⟩⟩
theorem Went.outW{own own':OwnF}{base:Nat}{w w0 w':World}{vb:Nat}(hk:OwnOk own base w)(hb:Below w.heap.size w w0)(hs:w.heap.size<=vb)(h:Went ChW (ownNew own (5,0) vb) w0 own' w'):Went ChW own w own' w':=by
 refine⟨(Only.of_below (S:=Sch own ChW) hb).trans h.only ?_,⟨fun q o e=>h.ext.keep q o ?_,fun q o e=>?_⟩⟩
 ·rintro q hq ⟨o,e,c⟩;unfold ownNew at e;rw[if_neg (by omega)]at e;exact⟨o,e,c⟩
 ·have:=(hk.lt q o e).2;unfold ownNew;rw[if_neg (by omega)];exact e
 ·rcases h.ext.new q o e with e'|e'
  ·unfold ownNew at e'
   split at e'
   ·exact .inr (by omega)
   ·exact .inl e'
  ·exact .inr (Nat.le_trans hb.size e')
theorem cells_put(h:A4)(xs:List A4)(pos:Nat)(a:A4)(hl:xs.length<4):(((((cellsU (ruP h xs pos)).set (4+xs.length*4) (.int .i64 a.n)).set (4+xs.length*4+1) (.int .i64 a.r.a)).set (4+xs.length*4+2) (.int .i64 a.r.b)).set (4+xs.length*4+3) (.int .i64 a.r.c)).set 21 (.int .i64 ((xs.length+1:Nat):Int))=cellsU (ruP h (xs++[a]) pos):=by
 match xs,hl with
 |[],_=>rfl
 |[_],_=>rfl
 |[_,_],_=>rfl
 |[_,_,_],_=>rfl
 |_::_::_::_::_,h=>simp at h;omega
theorem cells_put21(h:A4)(xs:List A4)(pos:Nat)(a:A4)(hl:xs.length<4):(((((cellsU (ruP h xs pos)).set (4+xs.length*4) (.int .i64 a.n)).set (4+xs.length*4+1) (.int .i64 a.r.a)).set (4+xs.length*4+2) (.int .i64 a.r.b)).set (4+xs.length*4+3) (.int .i64 a.r.c))[21]? =some (.int .i64 (xs.length:Nat)):=by
 match xs,hl with
 |[],_=>rfl
 |[_],_=>rfl
 |[_,_],_=>rfl
 |[_,_,_],_=>rfl
 |_::_::_::_::_,h=>simp at h;omega
theorem cells_pos(h:A4)(xs:List A4)(pos pos':Nat):(cellsU (ruP h xs pos)).set 20 (.int .i64 (pos':Nat))=cellsU (ruP h xs pos'):=rfl
theorem two_at(b:Nat)(h:b<2):[Value.bool false,.bool true][b]? =some (.bool (decide (b=1))):=by
 match b,h with
 |0,_=>rfl
 |1,_=>rfl
theorem first_done(L X:List LitD)(b:Nat)(h:b<2):(if b=0 then [] else if b=1 then L.filter (fun l=> !l.neg) else X)=doneL L (decide (b=1)) 0:=by
 match b,h with
 |0,_=>rfl
 |1,_=>simp[doneL]
structure CodS(base base' tb vb K O P:Nat)(D:TD)(qs:List A4)(S:List TabD)(sz:Nat)(d:ClD)(bo:Option Addr)(bcap:Nat)(x0:W3)(own0:OwnF)(W:World)(L:List LitD)(ck:List Value)(wr:World)(own3:OwnF):Prop where
 t:∃V3,TIs wr own3 base tb V3 ⟨D.m0,D.m1,D.ru,(litsW x0 L).1,(litsW x0 L).2.1,D.rules⟩ qs S sz
 v:∃mv lv,VarIs wr own3 base vb (litsW x0 L).2.2 mv lv
 k:Blk wr K ck 118
 o:Blk wr O zU 118
 p:Blk wr P [.string d.nm,.int .i64 d.cn,.string (d.t 0),.string (d.t 1),.string (d.t 2),.slice bo d.lits.length bcap] 60
 l:wr.ownsRow base' 130 6 (.slice bo d.lits.length bcap) d.lits.length (d.lits.flatMap LitD.cells)
 nk:own3 K=none
 no:own3 O=none
 np:own3 P=none
 nl:∀q,(Value.slice bo d.lits.length bcap).ownBlock=some q->own3 q=none
 went:Went ChW own0 W own3 wr
section
variable {base base' tb vb K O P:Nat} {D:TD} {qs:List A4} {S:List TabD} {sz:Nat} {d:ClD} {bo:Option Addr} {bcap:Nat} {x0:W3} {own0:OwnF} {W:World} {L:List LitD} {ck:List Value} {wr w':World} {own3:OwnF}
theorem CodS.below(h:CodS base base' tb vb K O P D qs S sz d bo bcap x0 own0 W L ck wr own3)(hb:Below wr.heap.size wr w'):CodS base base' tb vb K O P D qs S sz d bo bcap x0 own0 W L ck w' own3:=by obtain⟨V3,hT⟩:=h.t;obtain⟨mv,lv,hv⟩:=h.v;exact⟨⟨V3,hT.below hb⟩,⟨mv,lv,hv.below hb⟩,h.k.below hb,h.o.below hb,h.p.below hb,own_below h.l hb,h.nk,h.no,h.np,h.nl,h.went.thenBelow hb⟩
theorem CodS.setK(h:CodS base base' tb vb K O P D qs S sz d bo bcap x0 own0 W L ck wr own3)(hK:W.heap.size<=K)(hKO:K≠O)(ho:Only (fun q=>q=K) wr w'){ck':List Value}(hB:Blk w' K ck' 118):CodS base base' tb vb K O P D qs S sz d bo bcap x0 own0 W L ck' w' own3:=by
 obtain⟨V3,hT⟩:=h.t;obtain⟨mv,lv,hv⟩:=h.v;have hNo:∀q o,own3 q=some o->¬q=K:=fun q o e e'=>by rw[e',h.nk]at e;cases e
 have hPK:P≠K:=fun e=>by have:=h.p;rw[e]at this;unfold Blk at this;rw[h.k]at this;simp at this
 exact⟨⟨V3,hT.only ho (.refl 0 _) (hT.ok.below ho.size) (fun q o e _ _=>hNo q o e)⟩,⟨mv,lv,hv.only ho (.refl 0 _) (fun q e=>hNo q _ e)⟩,hB,h.o.only ho (Ne.symm hKO),h.p.only ho hPK,own_only h.l ho (fun q hq e=>own_ne h.l h.k (by decide) (e▸hq)),h.nk,h.no,h.np,h.nl,⟨h.went.only.trans ho (fun q hq e=>by omega),h.went.ext⟩⟩
end
theorem codeRule_c{w:World}{own:OwnF}{base base' tb:Nat}{V:TV}{D:TD}{qs:List A4}{S:List TabD}{sz:Nat}(h:TIs w own base tb V D qs S sz)(d:ClD)(bo:Option Addr)(bcap:Nat)(hb:w.ownsRow base' 130 6 (.slice bo d.lits.length bcap) d.lits.length (d.lits.flatMap LitD.cells))(hbo:∀q,(Value.slice bo d.lits.length bcap).ownBlock=some q->own q=none)(hwf:d.WF)(hc:D.consts.length<=10000)(hnm:D.names.length<=10000):
 Calls prog 45 #[.pointer (some ⟨tb,2,none⟩),.agg #[.string d.nm,.int .i64 d.cn,.string (d.t 0),.string (d.t 1),.string (d.t 2),.slice bo d.lits.length bcap]] w fun e w'=>∃(own':OwnF) (V':TV),e=.returned (.agg (cellsU (codeU (ruleW D.names D.consts d).1 (ruleW D.names D.consts d).2.1 (ruleW D.names D.consts d).2.2 d)).toArray)/\
  TIs w' own' base tb V' ⟨D.m0,D.m1,D.ru,(ruleW D.names D.consts d).1,(ruleW D.names D.consts d).2.1,D.rules⟩ qs S sz/\Went ChW own w own' w':=by
 have hnone:∀q,w.heap.size<=q->own q=none:=by
  intro q hq
  cases e:own q with
  |none=>rfl
  |some o=>exact absurd (h.ok.lt _ o e).2 (by omega)
 have hbb:=h.ok.base;obtain⟨W,HW⟩:∃W:World,Hid (W=((w.alloc (.cells #[.string d.nm,.int .i64 d.cn,.string (d.t 0),.string (d.t 1),.string (d.t 2),.slice bo d.lits.length bcap] 60)).alloc (.cells zU.toArray 118)).alloc (.cells #[.map none,.slice none 0 0] 100)):=⟨_,rfl⟩;have hB0:Below w.heap.size w W:=by rw[HW.out];exact(((Below.refl w.heap.size w).alloc (Nat.le_refl _) _).alloc (by simp) _).alloc (by simp;omega) _
 have hP0:Blk W w.heap.size [.string d.nm,.int .i64 d.cn,.string (d.t 0),.string (d.t 1),.string (d.t 2),.slice bo d.lits.length bcap] 60:=by rw[HW.out];exact((Blk.new w _ _).alloc _).alloc _
 have hO0:Blk W (w.heap.size+1) zU 118:=by rw[HW.out];have:=(Blk.new (w.alloc (.cells #[.string d.nm,.int .i64 d.cn,.string (d.t 0),.string (d.t 1),.string (d.t 2),.slice bo d.lits.length bcap] 60)) zU 118).alloc (.cells #[.map none,.slice none 0 0] 100);simp only[World.size_alloc]at this;exact this
 have hV0:Blk W (w.heap.size+1+1) [.map none,.slice none 0 0] 100:=by rw[HW.out];have:=Blk.new ((w.alloc (.cells #[.string d.nm,.int .i64 d.cn,.string (d.t 0),.string (d.t 1),.string (d.t 2),.slice bo d.lits.length bcap] 60)).alloc (.cells zU.toArray 118)) [.map none,.slice none 0 0] 100;simp only[World.size_alloc]at this;exact this
 obtain⟨h0,hv0⟩:=newVars (h.below hB0) (hnone _ (by omega)) (by omega) hV0
 have hpad:∀(ts:List B8),(∀t∈ts,t.length<=12)->∀i,(padW ts i).length<=12:=by
  intro ts hts i;unfold padW;rw[List.getD_eq_getElem?_getD]
  cases e:ts[i]? with
  |none=>simp
  |some t=>exact hts t (List.mem_of_getElem? e)
 have hwh:=hwf.words (d.name,d.ts) (by simp[ClD.atoms]);have HC:=hid (codeAtom_c h0 hv0 d.name d.ts d.cn hwh.1 (hpad _ hwh.2.2) (by omega) (by omega) (by simp));obtain⟨x0,HX0⟩:∃x0,Hid (x0=atomW (D.names,D.consts,[]) d.name d.ts):=⟨_,rfl⟩;obtain⟨a0,HA0⟩:∃a0,Hid (a0=codeA x0.1 x0.2.1 x0.2.2 d.name d.ts):=⟨_,rfl⟩;rw[<-HX0.out,<-HA0.out]at HC
 have hHC:Calls prog 67 #[.pointer (some ⟨tb,2,none⟩),.agg #[.string d.nm,.int .i64 d.cn,.string (d.t 0),.string (d.t 1),.string (d.t 2)],.pointer (some ⟨w.heap.size+1+1,0,none⟩)] W fun e w'=>∃(own':OwnF) (V':TV) (mv' lv':Value),e=.returned (.agg #[.int .i64 a0.n,.int .i64 a0.r.a,.int .i64 a0.r.b,.int .i64 a0.r.c])/\
  TIs w' own' base tb V' ⟨D.m0,D.m1,D.ru,x0.1,x0.2.1,D.rules⟩ qs S sz/\VarIs w' own' base (w.heap.size+1+1) x0.2.2 mv' lv'/\Went ChW (ownNew own (5,0) (w.heap.size+1+1)) W own' w':=HC.out
 have HC:=hid hHC;clear hHC;go_enter func45,ntmps45;go_upto_region 2 with fail
 generalize hWe:(((w.alloc (.cells #[.string d.nm,.int .i64 d.cn,.string (d.t 0),.string (d.t 1),.string (d.t 2),.slice bo d.lits.length bcap] 60)).alloc (.cells #[.int .i64 0,.int .i64 0,.int .i64 0,.int .i64 0,.int .i64 0,.int .i64 0,.int .i64 0,.int .i64 0,.int .i64 0,.int .i64 0,.int .i64 0,.int .i64 0,.int .i64 0,.int .i64 0,.int .i64 0,.int .i64 0,.int .i64 0,.int .i64 0,.int .i64 0,.int .i64 0,.int .i64 0,.int .i64 0] 118)).alloc (.cells #[.map none,.slice none 0 0] 100))=W';have hWW:W'=W:=hWe.symm.trans HW.out.symm;subst hWW;clear hWe HW;have hlP:=hP0.lt;have p0:W'.cell? ⟨w.heap.size,0,none⟩=some (.string d.nm):=hP0.cell 0;have p1:W'.cell? ⟨w.heap.size,1,none⟩=some (.int .i64 d.cn):=hP0.cell 1;have p2:W'.cell? ⟨w.heap.size,2,none⟩=some (.string (d.t 0)):=hP0.cell 2;have p3:W'.cell? ⟨w.heap.size,3,none⟩=some (.string (d.t 1)):=hP0.cell 3;have p4:W'.cell? ⟨w.heap.size,4,none⟩=some (.string (d.t 2)):=hP0.cell 4;go_upto_region 3 with(first|(go_at_call 67;refine(HC.out).mono ?_;rintro e w1 ⟨own1,V1,mv1,lv1,rfl,hT1,hv1,hW1⟩)|(refine wpList_store_new rfl 118 (.tmp 6) (.tmp 15) rfl (cellsU ⟨a0,zA4,zA4,zA4,zA4,0,0⟩) rfl rfl infoU rfl (oneU _) ?_;intro w2 hK2 hbe2 hs2));clear HC p0 p1 p2 p3 p4
 have hnv:∀q,w.heap.size<=q->q≠w.heap.size+1+1->ownNew own (5,0) (w.heap.size+1+1) q=none:=fun q h1 h2=>by unfold ownNew;rw[if_neg h2];exact hnone q h1
 have hbv:∀q,(Value.slice bo d.lits.length bcap).ownBlock=some q->ownNew own (5,0) (w.heap.size+1+1) q=none:=fun q hq=>by unfold ownNew;rw[if_neg (by have:=(hb.lt q hq).2;omega)];exact hbo q hq
 have hP2:=(hP0.went hW1 (hnv _ (by omega) (by omega))).below hbe2;have hO2:=(hO0.went hW1 (hnv _ (by omega) (by omega))).below hbe2
 have hL2:=own_below (own_only (own_below hb hB0) hW1.only (fun q hq=>by
  rintro⟨o,e,_⟩;rw[hbv q hq]at e
  cases e)) hbe2
 have hnP:=hW1.none hlP (hnv _ (by omega) (by omega));have hnO:=hW1.none hO0.lt (hnv _ (by omega) (by omega));have hnL:∀q,(Value.slice bo d.lits.length bcap).ownBlock=some q->own1 q=none:=fun q hq=>hW1.none (by have:=(hb.lt q hq).2;have:=hB0.size;omega) (hbv q hq);have hT2:=hT1.below hbe2;have hv2:=hv1.below hbe2;have hW2:=hW1.thenBelow hbe2
 have hnK:own1 w1.heap.size=none:=by
  cases e:own1 w1.heap.size with
  |none=>rfl
  |some o=>exact absurd (hT1.ok.lt _ o e).2 (by omega)
 have hw1s:=hW1.only.size;obtain⟨K,HK⟩:∃K,Hid (K=w1.heap.size):=⟨_,rfl⟩;have hKw:W'.heap.size<=K:=by rw[HK.out];exact hw1s
 have hlV0:=hV0.lt;rw[<-HK.out]at hK2 hnK⊢;clear hT1 hv1 hW1 hP0 hO0 h0 hv0 hV0 hbe2 hs2 HK hw1s hb hbo;have hC2:CodS base base' tb (w.heap.size+1+1) K (w.heap.size+1) w.heap.size D qs S sz d bo bcap x0 (ownNew own (5,0) (w.heap.size+1+1)) W' [] (cellsU (ruP a0 [] 0)) w2 own1:=⟨⟨V1,hT2⟩,⟨mv1,lv1,hv2⟩,hK2,hO2,hP2,hL2,hnK,hnO,hnP,hnL,hW2⟩;clear hT2 hv2 hK2 hO2 hP2 hL2 hnK hnO hnP hnL hW2;have hlB:=hC2.k.lt;have hKO:K≠w.heap.size+1:=by omega
 go_wp2_with fail
 go_loopw [18] (fun iv wr=>∃(b:Nat) (own3:OwnF),b<=2/\iv=.int .i64 (b:Nat)/\CodS base base' tb (w.heap.size+1+1) K (w.heap.size+1) w.heap.size D qs S sz d bo bcap x0 (ownNew own (5,0) (w.heap.size+1+1)) W' (if b=0 then [] else if b=1 then d.lits.filter (fun l=> !l.neg) else d.sorted) (cellsU (ruP a0 (litsC x0 (if b=0 then [] else if b=1 then d.lits.filter (fun l=> !l.neg) else d.sorted)) (if b=0 then 0 else(d.lits.filter (fun l=> !l.neg)).length))) wr own3/\Blk wr w2.heap.size [.bool false,.bool true] 4/\own3 w2.heap.size=none) (fun iv _=>2-(intOf iv).toNat)
 case atStart=>
  have hBa:=below_alloc w2 (.cells #[.bool false,.bool true] 4);obtain⟨V9,hT9⟩:=hC2.t;refine⟨0,own1,by omega,rfl,hC2.below hBa,Blk.new w2 _ _,?_⟩
  cases e:own1 w2.heap.size with
  |none=>rfl
  |some o=>exact absurd (hT9.ok.lt _ o e).2 (by omega)
 case round=>
  clear hC2;obtain⟨b,own3,hb2,rfl,hC3,hBs,hnB⟩:=hrel;have hlP3:=hC3.p.lt;have hlK3:=hC3.k.lt;have hlS3:=hBs.lt;by_cases hlt:b<2
  ·obtain⟨bb,HBB⟩:∃bb:Bool,Hid (bb=decide (b=1)):=⟨_,rfl⟩;have hbs:wr.cell? ⟨w2.heap.size,b,none⟩=some (.bool bb):=by rw[hBs.cell b,HBB.out];exact two_at b hlt
   have hL0:=first_done d.lits d.sorted b hlt;rw[<-HBB.out]at hL0;rw[hL0]at hC3;have hd:decide ((b:Int)<2)=true:=by simp;omega
   have p5:wr.cell? ⟨w.heap.size,5,none⟩=some (.slice bo d.lits.length bcap):=hC3.p.cell 5;obtain⟨po,HPO⟩:∃po,Hid (po=(if b=0 then 0 else(d.lits.filter (fun l=> !l.neg)).length)):=⟨_,rfl⟩;rw[<-HPO.out]at hC3;go_wp2_with fail
   go_loopw [25] (fun kv wx=>∃(k:Nat) (own4:OwnF),kv=.int .i64 (k:Nat)/\k<=d.lits.length/\CodS base base' tb (w.heap.size+1+1) K (w.heap.size+1) w.heap.size D qs S sz d bo bcap x0 (ownNew own (5,0) (w.heap.size+1+1)) W' (doneL d.lits bb k) (cellsU (ruP a0 (litsC x0 (doneL d.lits bb k)) po)) wx own4/\Blk wx w2.heap.size [.bool false,.bool true] 4/\own4 w2.heap.size=none) (fun kv _=>d.lits.length-(intOf kv).toNat)
   case atStart=>exact⟨0,own3,rfl,Nat.zero_le _,hC3,hBs,hnB⟩
   case round=>as_aux_lemma=>
    clear hC3 hBs hnB hbs p5 hlP3 hlK3 hlS3;obtain⟨k,own4,rfl,hk,hC4,hBs,hnB⟩:=hrel;have hlK4:=hC4.k.lt;have hlS4:=hBs.lt;by_cases hkl:k<d.lits.length
    ·have hd5:decide ((k:Int)<(d.lits.length:Int))=true:=by simp;omega
     obtain⟨g,rfl,hg,l0,l1,l2,l3,l4,l5⟩:=lits_at hC4.l k hkl;have HST:=hid (doneL_step d.lits bb k hkl);have hlm:=List.getElem_mem hkl;generalize d.lits[k]=li at*;have hll:=hwf.lits;have hdl:=doneL_len d.lits bb k;obtain⟨xs,HXS⟩:∃xs,Hid (xs=litsC x0 (doneL d.lits bb k)):=⟨_,rfl⟩;have HXL:=hid (show xs.length=(doneL d.lits bb k).length by rw[HXS.out];exact litsC_len _ _);rw[<-HXS.out]at hC4;by_cases hne:li.neg=bb
     ·rw[if_pos hne]at HST;have hbq:(li.neg==bb)=true:=by simp[hne]
      clear hne;have hlw:=hwf.words (li.name,li.ts) (by simp only[ClD.atoms];exact List.mem_cons_of_mem _ (List.mem_map.2 ⟨li,hlm,rfl⟩));have hlen3:=litsW_len x0 (doneL d.lits bb k);have hx0l:Len3 (D.names,D.consts,[]) x0 1:=by rw[HX0.out];exact atomW_len _ _ _
      have e1:=hlen3.a;have e2:=hlen3.b;have e3:=hlen3.c;have e4:=hx0l.a;have e5:=hx0l.b;have e6:=hx0l.c;simp only[List.length_nil]at e4 e5 e6;obtain⟨y,HY⟩:∃y,Hid (y=atomW (litsW x0 (doneL d.lits bb k)) li.name li.ts):=⟨_,rfl⟩;obtain⟨a,HA⟩:∃a,Hid (a=codeA y.1 y.2.1 y.2.2 li.name li.ts):=⟨_,rfl⟩;obtain⟨V4,hT4⟩:=hC4.t;obtain⟨mv4,lv4,hv4⟩:=hC4.v
      have HC:∀W5,Below wr.heap.size wr W5->Calls prog 67 #[.pointer (some ⟨tb,2,none⟩),.agg #[.string li.nm,.int .i64 li.cn,.string (li.t 0),.string (li.t 1),.string (li.t 2)],.pointer (some ⟨w.heap.size+1+1,0,none⟩)] W5 fun e w'=>∃(own':OwnF) (V':TV) (mv' lv':Value),e=.returned (.agg #[.int .i64 a.n,.int .i64 a.r.a,.int .i64 a.r.b,.int .i64 a.r.c])/\
           TIs w' own' base tb V' ⟨D.m0,D.m1,D.ru,y.1,y.2.1,D.rules⟩ qs S sz/\VarIs w' own' base (w.heap.size+1+1) y.2.2 mv' lv'/\Went ChW own4 W5 own' w':=by
          intro W5 hb5;have:=codeAtom_c (hT4.below hb5) (hv4.below hb5) li.name li.ts li.cn hlw.1 (hpad _ hlw.2.2) (by simp only;omega) (by simp only;omega) (by omega);have e9:((litsW x0 (doneL d.lits bb k)).1,(litsW x0 (doneL d.lits bb k)).2.1,(litsW x0 (doneL d.lits bb k)).2.2)=litsW x0 (doneL d.lits bb k):=rfl;simp only[e9]at this;rw[<-HY.out,<-HA.out]at this;exact this
      have hxs4:xs.length<4:=by have:=doneL_len d.lits bb (k+1);rw[HST.out,List.length_append]at this;have hx:=HXL.out;simp at this;omega
      clear e1 e2 e3 e4 e5 e6 hlen3 hx0l;have hx4i:¬(4:Int)<=(xs.length:Int):=by omega
      have hBe:=below_alloc wr (.cells #[.string li.nm,.int .i64 li.cn,.string (li.t 0),.string (li.t 1),.string (li.t 2),.bool li.neg] 130);have hC5:=hC4.below hBe.drew;have hBs5:=hBs.below hBe.drew;have k21:wr.cell? ⟨K,21,none⟩=some (.int .i64 (xs.length:Nat)):=hC4.k.cell 21;have hlW5:=hC5.k.lt;go_upto_region 10 with fail
      go_cut [] from 33 to 45 (fun wx=>∃own5,CodS base base' tb (w.heap.size+1+1) K (w.heap.size+1) w.heap.size D qs S sz d (some ⟨g,0,none⟩) bcap x0 (ownNew own (5,0) (w.heap.size+1+1)) W' (doneL d.lits bb (k+1)) (((((cellsU (ruP a0 xs po)).set (4+xs.length*4) (.int .i64 a.n)).set (4+xs.length*4+1) (.int .i64 a.r.a)).set (4+xs.length*4+2) (.int .i64 a.r.b)).set (4+xs.length*4+3) (.int .i64 a.r.c)) wx own5/\Blk wx w2.heap.size [.bool false,.bool true] 4/\own5 w2.heap.size=none)
      case first=>as_aux_lemma=>
          go_region_with (go_at_call 67;refine(HC _ (by exact hBe.drew)).mono ?_;rintro e w6 ⟨own6,V6,mv6,lv6,rfl,hT6,hv6,hW6⟩;have hK6:=hC5.k.went hW6 hC5.nk;have fK:=hK6.frozen;have hlK6:=hK6.lt;have k21':w6.cell? ⟨K,21,none⟩=some (.int .i64 (xs.length:Nat)):=hK6.cell 21;obtain⟨b0,b1,b2,b3⟩:=body_cell hK6 xs.length hxs4)
          all_goals go_wp2_with fail
          all_goals go_meet
          all_goals
           have hn6:=hW6.none hC5.k.lt hC5.nk;have hNo:∀q o,own6 q=some o->¬q=K:=fun q o e e'=>by rw[e',hn6]at e;cases e
           have hOn:Only (fun q=>q=K) w6 ((((w6.setCell ⟨K,4+xs.length*4,none⟩ (.int .i64 a.n)).setCell ⟨K,4+xs.length*4+1,none⟩ (.int .i64 a.r.a)).setCell ⟨K,4+xs.length*4+2,none⟩ (.int .i64 a.r.b)).setCell ⟨K,4+xs.length*4+3,none⟩ (.int .i64 a.r.c)):=((((Only.of_below (S:=fun q=>q=K) (Below.refl _ _)).setCell (p:=⟨K,4+xs.length*4,none⟩) (.inl rfl) _).setCell (p:=⟨K,4+xs.length*4+1,none⟩) (.inl rfl) _).setCell (p:=⟨K,4+xs.length*4+2,none⟩) (.inl rfl) _).setCell (p:=⟨K,4+xs.length*4+3,none⟩) (.inl rfl) _;have hlw9:litsW x0 (doneL d.lits bb (k+1))=y:=by rw[HST.out,litsW_snoc,HY.out]
           have hC6:CodS base base' tb (w.heap.size+1+1) K (w.heap.size+1) w.heap.size D qs S sz d (some ⟨g,0,none⟩) bcap x0 (ownNew own (5,0) (w.heap.size+1+1)) W' (doneL d.lits bb (k+1)) (cellsU (ruP a0 xs po)) w6 own6:=by refine⟨⟨V6,by rw[hlw9];exact hT6⟩,⟨mv6,lv6,by rw[hlw9];exact hv6⟩,hK6,hC5.o.went hW6 hC5.no,hC5.p.went hW6 hC5.np,own_only hC5.l hW6.only (fun q hq=>?_),hn6,hW6.none hC5.o.lt hC5.no,hW6.none hC5.p.lt hC5.np,fun q hq=>hW6.none (hC5.l.lt q hq).2 (hC5.nl q hq),hC5.went.trans hW6⟩;rintro⟨o,e,_⟩;rw[hC5.nl q hq]at e;cases e
           have hBs6:=hBs5.went hW6 hnB;have hKB:w2.heap.size≠K:=fun e=>by have:=hBs6;rw[e]at this;unfold Blk at this;rw[hK6]at this;simp at this
           exact⟨own6,hC6.setK hKw hKO hOn ((((hK6.setCell _ _).setCell _ _).setCell _ _).setCell _ _),hBs6.only hOn hKB,hW6.none hBs5.lt hnB⟩
      case rest=>
          obtain⟨own6,hC6,hBs6,hn6⟩:=hcut;obtain⟨w6,hw6⟩:∃x:World,x=wc:=⟨wc,rfl⟩;subst hw6;have hlK6:=hC6.k.lt;have m21:w6.cell? ⟨K,21,none⟩=some (.int .i64 (xs.length:Nat)):=(hC6.k.cell 21).trans (cells_put21 a0 xs po a hxs4);have fK:=hC6.k.frozen;have hKB:w2.heap.size≠K:=fun e=>by have:=hBs6;rw[e]at this;unfold Blk at this;rw[hC6.k]at this;simp at this
          go_wp2_with fail;have hOn:Only (fun q=>q=K) w6 (w6.setCell ⟨K,21,none⟩ (.int .i64 ((xs.length+1:Nat):Int))):=(Only.of_below (S:=fun q=>q=K) (Below.refl _ _)).setCell (p:=⟨K,21,none⟩) (.inl rfl) _;have hk7:=hC6.k.setCell 21 (.int .i64 ((xs.length+1:Nat):Int));rw[cells_put a0 xs po a hxs4,show xs++[a]=litsC x0 (doneL d.lits bb (k+1)) by rw[HST.out,litsC_snoc,<-HXS.out,<-HY.out,<-HA.out]]at hk7;rw[show((xs.length:Int)+1)=((xs.length+1:Nat):Int) by omega];exact⟨⟨k+1,own6,by go_num,hkl,hC6.setK hKw hKO hOn hk7,hBs6.only hOn hKB,hn6⟩,by simp[intOf];omega⟩
     ·rw[if_neg hne]at HST;have hbq:(li.neg==bb)=false:=by simp[hne]
      go_wp2_with fail;refine⟨⟨k+1,own4,by go_num,hkl,?_,hBs.alloc _,hnB⟩,by simp[intOf];omega⟩;rw[HST.out,<-HXS.out];exact hC4.below (below_alloc wr _)
    ·have hd5:decide ((k:Int)<(d.lits.length:Int))=false:=by simp;omega
     have hke:k=d.lits.length:=by omega
     subst hke;have m21:wr.cell? ⟨K,21,none⟩=some (.int .i64 ((litsC x0 (doneL d.lits bb d.lits.length)).length:Nat)):=hC4.k.cell 21;have m20:wr.cell? ⟨K,20,none⟩=some (.int .i64 (po:Nat)):=hC4.k.cell 20;have fK:=hC4.k.frozen;have hKB:w2.heap.size≠K:=fun e=>by have:=hBs;rw[e]at this;unfold Blk at this;rw[hC4.k]at this;simp at this
     rw[litsC_len]at m21
     cases bb with
     |false=>
      have hb0:b=0:=by have:=HBB.out;simp at this;omega
      subst hb0;have hdn:doneL d.lits false d.lits.length=d.lits.filter (fun l=> !l.neg):=by simp[doneL]
      rw[hdn]at hC4 m21;go_wp2_with fail;have hOn:Only (fun q=>q=K) wr (wr.setCell ⟨K,20,none⟩ (.int .i64 ((d.lits.filter (fun l=> !l.neg)).length:Nat))):=(Only.of_below (S:=fun q=>q=K) (Below.refl _ _)).setCell (p:=⟨K,20,none⟩) (.inl rfl) _;have hk7:=hC4.k.setCell 20 (.int .i64 ((d.lits.filter (fun l=> !l.neg)).length:Nat));rw[cells_pos]at hk7;exact⟨⟨1,own4,by omega,rfl,hC4.setK hKw hKO hOn hk7,hBs.only hOn hKB,hnB⟩,by simp[intOf]⟩
     |true=>
      have hb1:b=1:=by have:=HBB.out;simp at this;exact this
      subst hb1;have hdn:doneL d.lits true d.lits.length=d.sorted:=by simp[doneL,ClD.sorted]
      rw[hdn]at hC4;have hpo:po=(d.lits.filter (fun l=> !l.neg)).length:=by rw[HPO.out];simp
      rw[hpo]at hC4;go_wp2_with fail;exact⟨⟨2,own4,by omega,rfl,hC4,hBs,hnB⟩,by simp[intOf]⟩
  ·have hbe:b=2:=by omega
   subst hbe;rw[show((2:Nat):Int)=2 from rfl];simp only[if_neg (show ¬(2:Nat)=0 by omega),if_neg (show ¬(2:Nat)=1 by omega)]at hC3;have hq:=ruP_final D.names D.consts d;rw[<-HX0.out,<-HA0.out]at hq;have hK3:=hC3.k;rw[hq]at hK3;have hO3:=hC3.o;obtain⟨V4,hT4⟩:=hC3.t;have hrw:litsW x0 d.sorted=ruleW D.names D.consts d:=by rw[HX0.out];rfl
   rw[hrw]at hT4;obtain⟨q,HQ⟩:∃q,Hid (q=codeU (ruleW D.names D.consts d).1 (ruleW D.names D.consts d).2.1 (ruleW D.names D.consts d).2.2 d):=⟨_,rfl⟩;rw[<-HQ.out]at hK3;go_wp2_with (first|(refine wpList_load_row rfl 118 (.tmp 6) rfl K rfl 118 (cellsU q).toArray (0,0) _ hK3 underlying118 rfl infoU ?_)|(refine wpList_store_row rfl 118 (.tmp 4) (.tmp 52) rfl (w.heap.size+1) (cellsU q).toArray rfl rfl 118 zU.toArray hO3 infoU rfl (oneU q) ?_));have hOn:Only (fun x=>x=w.heap.size+1) wr (wr.setRow (w.heap.size+1) (cellsU q).toArray):=⟨rfl,rfl,rfl,by simp,fun k _ hn=>Go.setRow_other wr _ k _ hn⟩;have hNo:∀q o,own3 q=some o->¬q=w.heap.size+1:=fun q o e e'=>by rw[e',hC3.no]at e;cases e
   have hWout:=Went.outW h.ok hB0 (by omega) hC3.went;refine bodyPost_ret (v:=.agg (cellsU q).toArray) (results_cell_row rfl _ _ (w.heap.size+1) 118 (cellsU q).toArray (0,0) _ rfl (setRow_heap wr (w.heap.size+1) _ _ _ _ hO3) underlying118 rfl infoU) rfl ⟨own3,V4,by rw[HQ.out],hT4.only hOn (.refl 0 _) (hT4.ok.below (by simp)) (fun q o e _ _=>hNo q o e),⟨hWout.only.trans hOn (fun k hk e=>by omega),hWout.ext⟩⟩
end
section
attribute [local go_sem] drewN_alloc drewN_setCell
open Go.RowKit Go.WideMaps Go.Maps
variable [DecidableEq R3] [DecidableEq A4]
theorem atS_c(w:World)(base sb o:Nat)(mv lv:Value)(xs:List B8)(c1:w.cell? ⟨sb,o+1,none⟩=some lv)(hS:SetIsS w base mv lv xs)(i:Nat)(x:B8)(hx:xs[i]? =some x):
 Calls prog 90 #[.pointer (some ⟨sb,o,none⟩),.int .i64 i] w fun e w'=>e=.returned (.string (bs x))/\w'=w:=by
 obtain⟨ao,cap,rfl⟩:=own_form hS.1;obtain⟨hi,hxe⟩:=List.getElem?_eq_some_iff.1 hx;have h:=hS.1;rw[List.flatMap_def]at h;obtain⟨g,rfl,_,hc⟩:=own_at h (by intro r hr;obtain⟨p,_,rfl⟩:=List.mem_map.1 hr;rfl) (by simp) i hi;have e:(xs.map fun k=>[Value.string (bs k)]).getD i []=[.string (bs x)]:=by rw[List.getD_eq_getElem?_getD,List.getElem?_map,hx];rfl
 rw[e]at hc;have d0:w.cell? ⟨g,i,none⟩=some (.string (bs x)):=by simpa using hc 0 (by decide)
 have hsb:=blk_in c1;have hgb:=blk_in d0;clear hc e h hxe hx;go_enter func90,ntmps90;go_wp2_with fail
 go_ret
 exact⟨rfl,rfl⟩
def ansTo(nm:ByteArray)(cn:Int)(t0 t1 t2:ByteArray)(y0 y1 y2:B8)(i:Nat):List Value:=[.string nm,.int .i64 cn,.string (if 0<i then bs y0 else t0),.string (if 1<i then bs y1 else t1),.string (if 2<i then bs y2 else t2)]
theorem answer_c{w:World}{own:OwnF}{base tb:Nat}{V:TV}{D:TD}{qs:List A4}{S:List TabD}{sz:Nat}(h:TIs w own base tb V D qs S sz)(nm t0 t1 t2:ByteArray)(cn:Int)(x0 x1 x2:Nat)(y0 y1 y2:B8)(h0:D.consts[x0]? =some y0)(h1:D.consts[x1]? =some y1)(h2:D.consts[x2]? =some y2):
 Calls prog 69 #[.pointer (some ⟨tb,2,none⟩),.agg #[.string nm,.int .i64 cn,.string t0,.string t1,.string t2],.agg #[.int .i64 (x0:Nat),.int .i64 (x1:Nat),.int .i64 (x2:Nat)]] w fun e w'=>e=.returned (.agg #[.string nm,.int .i64 cn,.string (bs y0),.string (bs y1),.string (bs y2)])/\Below w.heap.size w w':=by
 have i0:=idx_row0 (x0:Nat) (x1:Nat) (x2:Nat);have i1:=idx_row1 (x0:Nat) (x1:Nat) (x2:Nat);have i2:=idx_row2 (x0:Nat) (x1:Nat) (x2:Nat);go_enter func69,ntmps69;have hQ0:=((Blk.new w (ansTo nm cn t0 t1 t2 y0 y1 y2 0) 54).alloc (.cells #[.int .i64 (x0:Nat),.int .i64 (x1:Nat),.int .i64 (x2:Nat)] 113)).alloc (.cells zA.toArray 54);have hO0:=Blk.new ((w.alloc (.cells (ansTo nm cn t0 t1 t2 y0 y1 y2 0).toArray 54)).alloc (.cells #[.int .i64 (x0:Nat),.int .i64 (x1:Nat),.int .i64 (x2:Nat)] 113)) zA 54;have hB0:=(((Below.refl w.heap.size w).alloc (Nat.le_refl _) (.cells (ansTo nm cn t0 t1 t2 y0 y1 y2 0).toArray 54)).alloc (by simp) (.cells #[.int .i64 (x0:Nat),.int .i64 (x1:Nat),.int .i64 (x2:Nat)] 113)).alloc (by simp;omega) (.cells zA.toArray 54);simp only[World.size_alloc]at hO0;go_wp2_with fail
 go_loopw [10] (fun iv wr=>∃(i:Nat),i<=3/\iv=.int .i64 i/\Blk wr w.heap.size (ansTo nm cn t0 t1 t2 y0 y1 y2 i) 54/\Blk wr (w.heap.size+1+1) zA 54/\Below w.heap.size w wr) (fun iv _=>3-(intOf iv).toNat)
 case atStart=>exact⟨0,by omega,rfl,hQ0,hO0,hB0⟩
 case round=>
  clear hQ0 hO0 hB0;obtain⟨i,hi,rfl,hQ,hO,hB⟩:=hrel;have hlQ:=hQ.lt;have hlO:=hO.lt;have fQ:=hQ.frozen;have hT:=h.below hB;have htb:=hT.blk.lt;by_cases hlt:i<3
  ·rcases(show i=0\/i=1\/i=2 by omega) with hi0|hi0|hi0
   ·subst hi0;rw[show((0:Nat):Int)=0 from rfl];have q0:wr.cell? ⟨w.heap.size,2,none⟩=some (.string t0):=hQ.cell 2;have HA:=hid (atS_c wr base tb 4 V.cm V.cl D.consts (hT.blk.cell 5) hT.consts x0 y0 h0);go_wp2_with (go_at_call 90;refine(HA.out).mono ?_;rintro e w3 ⟨rfl,hw3⟩;subst w3);exact⟨⟨1,by omega,rfl,hQ.setCell 2 _,hO.setOther ⟨w.heap.size,2,none⟩ _ (by show w.heap.size+1+1≠w.heap.size;omega),hB.setCell (p:=⟨w.heap.size,2,none⟩) (Nat.le_refl _) _⟩,by simp[intOf]⟩
   ·subst hi0;rw[show((1:Nat):Int)=1 from rfl];have q0:wr.cell? ⟨w.heap.size,3,none⟩=some (.string t1):=hQ.cell 3;have HA:=hid (atS_c wr base tb 4 V.cm V.cl D.consts (hT.blk.cell 5) hT.consts x1 y1 h1);go_wp2_with (go_at_call 90;refine(HA.out).mono ?_;rintro e w3 ⟨rfl,hw3⟩;subst w3);exact⟨⟨2,by omega,rfl,hQ.setCell 3 _,hO.setOther ⟨w.heap.size,3,none⟩ _ (by show w.heap.size+1+1≠w.heap.size;omega),hB.setCell (p:=⟨w.heap.size,3,none⟩) (Nat.le_refl _) _⟩,by simp[intOf]⟩
   ·subst hi0;rw[show((2:Nat):Int)=2 from rfl];have q0:wr.cell? ⟨w.heap.size,4,none⟩=some (.string t2):=hQ.cell 4;have HA:=hid (atS_c wr base tb 4 V.cm V.cl D.consts (hT.blk.cell 5) hT.consts x2 y2 h2);go_wp2_with (go_at_call 90;refine(HA.out).mono ?_;rintro e w3 ⟨rfl,hw3⟩;subst w3);exact⟨⟨3,by omega,rfl,hQ.setCell 4 _,hO.setOther ⟨w.heap.size,4,none⟩ _ (by show w.heap.size+1+1≠w.heap.size;omega),hB.setCell (p:=⟨w.heap.size,4,none⟩) (Nat.le_refl _) _⟩,by simp[intOf]⟩
  ·have hie:i=3:=by omega
   subst hie;rw[show((3:Nat):Int)=3 from rfl];have q0:wr.cell? ⟨w.heap.size,0,none⟩=some (.string nm):=hQ.cell 0;have q1:wr.cell? ⟨w.heap.size,1,none⟩=some (.int .i64 cn):=hQ.cell 1;have q2:wr.cell? ⟨w.heap.size,2,none⟩=some (.string (bs y0)):=hQ.cell 2;have q3:wr.cell? ⟨w.heap.size,3,none⟩=some (.string (bs y1)):=hQ.cell 3;have q4:wr.cell? ⟨w.heap.size,4,none⟩=some (.string (bs y2)):=hQ.cell 4;have fO:=hO.frozen;have o0:wr.cell? ⟨w.heap.size+1+1,0,none⟩=some (.string ⟨#[]⟩):=hO.cell 0;have o1:wr.cell? ⟨w.heap.size+1+1,1,none⟩=some (.int .i64 0):=hO.cell 1;have o2:wr.cell? ⟨w.heap.size+1+1,2,none⟩=some (.string ⟨#[]⟩):=hO.cell 2;have o3:wr.cell? ⟨w.heap.size+1+1,3,none⟩=some (.string ⟨#[]⟩):=hO.cell 3;have o4:wr.cell? ⟨w.heap.size+1+1,4,none⟩=some (.string ⟨#[]⟩):=hO.cell 4;go_wp2_with fail;refine bodyPost_ret (v:=.agg #[.string nm,.int .i64 cn,.string (bs y0),.string (bs y1),.string (bs y2)]) (by simp[results,results69,go_sem,o0,o1,o2,o3,o4]) rfl ⟨rfl,?_⟩;refine Below.setCell (Below.setCell (Below.setCell (Below.setCell (Below.setCell hB ?_ _) ?_ _) ?_ _) ?_ _) ?_ _<;>simp<;>omega
end
end Go.Proofs.YtpbfiffgcgnidaaGreat
