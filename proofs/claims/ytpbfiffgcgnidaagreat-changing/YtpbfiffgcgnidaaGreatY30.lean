import Derived.Test.YtpbfiffgcgnidaaGreatYal
import Derived.Test.YtpbfiffgcgnidaaGreatY23
import Derived.Test.YtpbfiffgcgnidaaGreatY24
import Derived.Test.YtpbfiffgcgnidaaGreatY25
namespace Go.Proofs.YtpbfiffgcgnidaaGreat
set_option maxRecDepth 100000
set_option maxHeartbeats 4000000
set_option linter.unusedSectionVars false
set_option linter.unusedSimpArgs false
open Go.Proofs.Tryz
section
attribute [local go_sem] drewN_alloc drewN_setCell
open Go.RowKit Go.WideMaps Go.Maps
variable [DecidableEq R3] [DecidableEq A4]
def ChW(o:Owner):Prop:=o=(0,0)\/o.1=1\/o.1=5
structure VarIs(w:World)(own:OwnF)(base vb:Nat)(vs:List B8)(mv lv:Value):Prop where
 blk:Blk w vb [mv,lv] 100
 set:SetIsS w base mv lv vs
 ob:own vb=some (5,0)
 omv:Owns own (5,0) mv
 olv:Owns own (5,0) lv
theorem VarIs.only{P:Nat->Prop}{w w':World}{own own':OwnF}{base vb n:Nat}{vs:List B8}{mv lv:Value}(h:VarIs w own base vb vs mv lv)(ho:Only P w w')(he:OwnExt n own own')(hP:∀q,own q=some (5,0)->¬P q):VarIs w' own' base vb vs mv lv:=
 ⟨h.blk.only ho (hP _ h.ob),h.set.only ho (fun q hq=>hP q (h.olv q (.inr hq))) (fun q hq=>hP q (h.omv q (.inl hq))),he.keep _ _ h.ob,h.omv.ext he,h.olv.ext he⟩
theorem VarIs.below{w w':World}{own:OwnF}{base vb:Nat}{vs:List B8}{mv lv:Value}(h:VarIs w own base vb vs mv lv)(hb:Below w.heap.size w w'):VarIs w' own base vb vs mv lv:=
 h.only (P:=fun _=>False) (Only.of_below hb) (.refl 0 own) (fun _ _ e=>e)
section
variable {w w':World} {own:OwnF} {base tb:Nat} {V:TV} {D:TD} {qs:List A4} {S:List TabD} {sz:Nat}
theorem TIs.addN(h:TIs w own base tb V D qs S sz){m' l':Value}{xs':List B8}(hB:Blk w' tb [D.m0,D.m1,m',l',V.cm,V.cl,D.ru,V.qm,V.ql,V.li,.int .i64 (sz:Nat)] 110)(hS:SetIsS w' base m' l' xs')(hf:AddFrame w w' tb V.nm V.nl m' l'):
 TIs w' (ownAdd own (1,0) m' l') base tb ⟨m',l',V.cm,V.cl,V.qm,V.ql,V.li⟩ ⟨D.m0,D.m1,D.ru,xs',D.consts,D.rules⟩ qs S sz/\AddOwn own base w w' (0,0) (1,0) m' l':=by
 have ha:=frame_own h.ok hf h.ot (fun s e=>by simp at e) h.onm h.onl hS.shape hS.lt
 have ho:Only (fun q=>q=tb\/own q=some (1,0)) w w':=hf.only.mono (by
  rintro q (e|e|e)
  ·exact .inl e
  ·exact .inr (h.onm q (.inl e))
  ·exact .inr (h.onl q (.inr e)))
 have f:=fun(o:Owner) (hn:o≠(0,0)) (hn':o≠(1,0)) q (e:own q=some o)=>(by
  rintro(e'|e')
  ·rw[e',h.ot]at e
   injection e with e
   exact hn e.symm
  ·rw[e]at e'
   injection e' with e'
   exact hn' e':¬(q=tb\/own q=some (1,0)))
 have z:=fun q (hn:q≠tb) (e:own q=some (0,0))=>(by
  rintro(e'|e')
  ·exact hn e'
  ·rw[e]at e'
   simp at e':¬(q=tb\/own q=some (1,0)))
 refine⟨⟨ha.ok,hB,hS,h.consts.only ho (fun q hq=>f (1,1) (by simp) (by simp) q (h.ocl q (.inr hq))) (fun q hq=>f (1,1) (by simp) (by simp) q (h.ocm q (.inl hq))),own_only h.rules ho (fun q hq=>f (1,2) (by simp) (by simp) q (h.oru q (.inr hq))),h.qs.only ho (fun q hq=>z q (fun e=>own_ne h.qs.1 h.blk (by decide) (e▸hq)) (h.oql q (.inr hq))) (fun q hq=>z q (fun e=>?_) (h.oqm q (.inl hq))),own_only h.list ho (fun q hq=>z q (fun e=>own_ne h.list h.blk (by decide) (e▸hq)) (h.oli q (.inr hq))),ha.ext.keep _ _ h.ot,h.oqm.ext ha.ext,h.oql.ext ha.ext,h.oli.ext ha.ext,ha.om,ha.ol,h.ocm.ext ha.ext,h.ocl.ext ha.ext,h.oru.ext ha.ext,?_⟩,ha⟩
 ·rcases h.qs.2.2 with⟨e',_⟩|⟨r,D,e',_,hw,_⟩
  ·rw[e']at hq;simp[mapBlock]at hq
  ·rw[e']at hq;simp only[mapBlock,Option.some.injEq]at hq;exact map_ne hw h.blk (by omega)
 ·intro i t ht;obtain⟨ru,mv,lv,hT⟩:=h.tabs i t ht;exact⟨ru,mv,lv,hT.only ho ha.ext (fun q k hk e1=>f (k,i) (by rcases hk with rfl|rfl<;>simp) (by rcases hk with rfl|rfl<;>simp) q e1)⟩
theorem TIs.addC(h:TIs w own base tb V D qs S sz){m' l':Value}{xs':List B8}(hB:Blk w' tb [D.m0,D.m1,V.nm,V.nl,m',l',D.ru,V.qm,V.ql,V.li,.int .i64 (sz:Nat)] 110)(hS:SetIsS w' base m' l' xs')(hf:AddFrame w w' tb V.cm V.cl m' l'):
 TIs w' (ownAdd own (1,1) m' l') base tb ⟨V.nm,V.nl,m',l',V.qm,V.ql,V.li⟩ ⟨D.m0,D.m1,D.ru,D.names,xs',D.rules⟩ qs S sz/\AddOwn own base w w' (0,0) (1,1) m' l':=by
 have ha:=frame_own h.ok hf h.ot (fun s e=>by simp at e) h.ocm h.ocl hS.shape hS.lt
 have ho:Only (fun q=>q=tb\/own q=some (1,1)) w w':=hf.only.mono (by
  rintro q (e|e|e)
  ·exact .inl e
  ·exact .inr (h.ocm q (.inl e))
  ·exact .inr (h.ocl q (.inr e)))
 have f:=fun(o:Owner) (hn:o≠(0,0)) (hn':o≠(1,1)) q (e:own q=some o)=>(by
  rintro(e'|e')
  ·rw[e',h.ot]at e
   injection e with e
   exact hn e.symm
  ·rw[e]at e'
   injection e' with e'
   exact hn' e':¬(q=tb\/own q=some (1,1)))
 have z:=fun q (hn:q≠tb) (e:own q=some (0,0))=>(by
  rintro(e'|e')
  ·exact hn e'
  ·rw[e]at e'
   simp at e':¬(q=tb\/own q=some (1,1)))
 refine⟨⟨ha.ok,hB,h.names.only ho (fun q hq=>f (1,0) (by simp) (by simp) q (h.onl q (.inr hq))) (fun q hq=>f (1,0) (by simp) (by simp) q (h.onm q (.inl hq))),hS,own_only h.rules ho (fun q hq=>f (1,2) (by simp) (by simp) q (h.oru q (.inr hq))),h.qs.only ho (fun q hq=>z q (fun e=>own_ne h.qs.1 h.blk (by decide) (e▸hq)) (h.oql q (.inr hq))) (fun q hq=>z q (fun e=>?_) (h.oqm q (.inl hq))),own_only h.list ho (fun q hq=>z q (fun e=>own_ne h.list h.blk (by decide) (e▸hq)) (h.oli q (.inr hq))),ha.ext.keep _ _ h.ot,h.oqm.ext ha.ext,h.oql.ext ha.ext,h.oli.ext ha.ext,h.onm.ext ha.ext,h.onl.ext ha.ext,ha.om,ha.ol,h.oru.ext ha.ext,?_⟩,ha⟩
 ·rcases h.qs.2.2 with⟨e',_⟩|⟨r,D,e',_,hw,_⟩
  ·rw[e']at hq;simp[mapBlock]at hq
  ·rw[e']at hq;simp only[mapBlock,Option.some.injEq]at hq;exact map_ne hw h.blk (by omega)
 ·intro i t ht;obtain⟨ru,mv,lv,hT⟩:=h.tabs i t ht;exact⟨ru,mv,lv,hT.only ho ha.ext (fun q k hk e1=>f (k,i) (by rcases hk with rfl|rfl<;>simp) (by rcases hk with rfl|rfl<;>simp) q e1)⟩
end
theorem codeTerm_t{w:World}{own:OwnF}{base tb vb:Nat}{V:TV}{D:TD}{qs:List A4}{S:List TabD}{sz:Nat}{vs:List B8}{mv lv:Value}(h:TIs w own base tb V D qs S sz)(hv:VarIs w own base vb vs mv lv)(k:B8)(hk:k.length<=maxLen)(hn:D.consts.length<=1000000000000)(hn':vs.length<=1000000000000):
 Calls prog 89 #[.pointer (some ⟨tb,2,none⟩),.string (bs k),.pointer (some ⟨vb,0,none⟩)] w fun e w'=>∃(own':OwnF) (V':TV) (mv' lv':Value),e=.returned (.int .i64 (codeT (stepW (D.consts,vs) k).1 (stepW (D.consts,vs) k).2 k))/\
  TIs w' own' base tb V' ⟨D.m0,D.m1,D.ru,D.names,(stepW (D.consts,vs) k).1,D.rules⟩ qs S sz/\VarIs w' own' base vb (stepW (D.consts,vs) k).2 mv' lv'/\Went ChW own w own' w':=by
 cases hvk:isVar k with
 |true=>
  have e1:stepW (D.consts,vs) k=(D.consts,addG vs k):=by unfold stepW;rw[if_pos hvk]
  rw[e1,codeT_var hvk];refine(codeVar_c w base vb 0 _ 100 mv lv vs k hv.blk rfl rfl hv.set hk hn' (by decide) h.ok.base hvk tb 2).mono ?_;rintro e w' ⟨rfl,mv',lv',hB,hS,hF⟩;have ha:=frame_own h.ok hF hv.ob (fun s e=>by simp at e) hv.omv hv.olv hS.shape hS.lt;refine⟨_,V,mv',lv',rfl,h.only ha.same ha.ext ha.ok ?_,⟨hB,hS,ha.ext.keep _ _ hv.ob,ha.om,ha.ol⟩,Went.add ha (.inr (.inr rfl)) (.inr (.inr rfl))⟩;intro q o e _ hlt e';rw[e]at e'
  injection e' with e'
  subst e';exact hlt rfl
 |false=>
  have e1:stepW (D.consts,vs) k=(addG D.consts k,vs):=by unfold stepW;rw[if_neg (by simp[hvk])]
  rw[e1,codeT_const hvk];refine(codeConst_c w base tb 2 _ 110 V.cm V.cl D.consts k h.blk rfl rfl h.consts hk hn (by decide) h.ok.base hvk _).mono ?_;rintro e w' ⟨rfl,m',l',hB,hS,hF⟩;obtain⟨hT,ha⟩:=h.addC hB hS hF;refine⟨_,_,mv,lv,rfl,hT,hv.only ha.only ha.ext (fun q e=>?_),Went.add ha (.inl rfl) (.inr (.inl rfl))⟩;rw[e];simp
end
section
attribute [local go_sem] drewN_alloc drewN_setCell
open Go.RowKit Go.WideMaps Go.Maps
variable [DecidableEq R3] [DecidableEq A4]
theorem idx_at0(a b c:ByteArray)(w:World):(Instr.index 52 (.agg #[.string a,.string b,.string c]) (.int .i64 0)).run prog w=.ok (.string a) w:=by kernel_rfl
theorem idx_at1(a b c:ByteArray)(w:World):(Instr.index 52 (.agg #[.string a,.string b,.string c]) (.int .i64 1)).run prog w=.ok (.string b) w:=by kernel_rfl
theorem idx_at2(a b c:ByteArray)(w:World):(Instr.index 52 (.agg #[.string a,.string b,.string c]) (.int .i64 2)).run prog w=.ok (.string c) w:=by kernel_rfl
def rowTo(x:List B8×List B8)(ts:List B8):Nat->List B8×List B8
 |0=>x
 |1=>stepW x (padW ts 0)
 |2=>stepW (stepW x (padW ts 0)) (padW ts 1)
 |_=>rowW x ts
def codeTo(x:List B8×List B8)(ts:List B8)(j:Nat):Int:=codeT (rowTo x ts (j+1)).1 (rowTo x ts (j+1)).2 (padW ts j)
def cellsTo(x:List B8×List B8)(ts:List B8)(p:Nat)(i:Nat):List Value:=[.int .i64 (p:Nat),.int .i64 (if 0<i then codeTo x ts 0 else 0),.int .i64 (if 1<i then codeTo x ts 1 else 0),.int .i64 (if 2<i then codeTo x ts 2 else 0)]
theorem rowTo_len(x:List B8×List B8)(ts:List B8)(i:Nat)(hi:i<=3):(rowTo x ts i).1.length<=x.1.length+3/\(rowTo x ts i).2.length<=x.2.length+3:=by
 have h1:=stepW_len x (padW ts 0);have h2:=stepW_len (stepW x (padW ts 0)) (padW ts 1);have h3:=stepW_len (stepW (stepW x (padW ts 0)) (padW ts 1)) (padW ts 2)
 match i,hi with
 |0,_=>exact⟨by show x.1.length<=_;omega,by show x.2.length<=_;omega⟩
 |1,_=>exact⟨by show(stepW x (padW ts 0)).1.length<=_;omega,by show(stepW x (padW ts 0)).2.length<=_;omega⟩
 |2,_=>exact⟨by show(stepW (stepW x (padW ts 0)) (padW ts 1)).1.length<=_;omega,by show(stepW (stepW x (padW ts 0)) (padW ts 1)).2.length<=_;omega⟩
 |3,_=>exact⟨by show(stepW (stepW (stepW x (padW ts 0)) (padW ts 1)) (padW ts 2)).1.length<=_;omega,by show(stepW (stepW (stepW x (padW ts 0)) (padW ts 1)) (padW ts 2)).2.length<=_;omega⟩
 |_+4,h=>omega
theorem codeAtom_c{w:World}{own:OwnF}{base tb vb:Nat}{V:TV}{D:TD}{qs:List A4}{S:List TabD}{sz:Nat}{vs:List B8}{mv lv:Value}(h:TIs w own base tb V D qs S sz)(hv:VarIs w own base vb vs mv lv)(n:B8)(ts:List B8)(cn:Int)(hn:n.length<=12)(ht:∀i,(padW ts i).length<=12)(hc:D.consts.length<=100000)(hnm:D.names.length<=100000)(hvs:vs.length<=100000):
 Calls prog 67 #[.pointer (some ⟨tb,2,none⟩),.agg #[.string (bs n),.int .i64 cn,.string (bs (padW ts 0)),.string (bs (padW ts 1)),.string (bs (padW ts 2))],.pointer (some ⟨vb,0,none⟩)] w fun e w'=>∃(own':OwnF) (V':TV) (mv' lv':Value),e=.returned (.agg (cellsA (codeA (atomW (D.names,D.consts,vs) n ts).1 (atomW (D.names,D.consts,vs) n ts).2.1 (atomW (D.names,D.consts,vs) n ts).2.2 n ts)).toArray)/\
  TIs w' own' base tb V' ⟨D.m0,D.m1,D.ru,(atomW (D.names,D.consts,vs) n ts).1,(atomW (D.names,D.consts,vs) n ts).2.1,D.rules⟩ qs S sz/\VarIs w' own' base vb (atomW (D.names,D.consts,vs) n ts).2.2 mv' lv'/\Went ChW own w own' w':=by
 go_enter func67,ntmps67;go_wp2_with fail;have hB0:Below w.heap.size w ((w.alloc (.cells #[.string (bs n),.int .i64 cn,.string (bs (padW ts 0)),.string (bs (padW ts 1)),.string (bs (padW ts 2))] 54)).alloc (.cells #[.int .i64 0,.int .i64 0,.int .i64 0,.int .i64 0] 115)).drew:=(((Below.refl w.heap.size w).alloc (Nat.le_refl _) _).alloc (by simp) _).drew;have hA0:Blk ((w.alloc (.cells #[.string (bs n),.int .i64 cn,.string (bs (padW ts 0)),.string (bs (padW ts 1)),.string (bs (padW ts 2))] 54)).alloc (.cells #[.int .i64 0,.int .i64 0,.int .i64 0,.int .i64 0] 115)).drew w.heap.size [.string (bs n),.int .i64 cn,.string (bs (padW ts 0)),.string (bs (padW ts 1)),.string (bs (padW ts 2))] 54:=((Blk.new w _ _).alloc _).drew;have hO0:Blk ((w.alloc (.cells #[.string (bs n),.int .i64 cn,.string (bs (padW ts 0)),.string (bs (padW ts 1)),.string (bs (padW ts 2))] 54)).alloc (.cells #[.int .i64 0,.int .i64 0,.int .i64 0,.int .i64 0] 115)).drew (w.heap.size+1) [.int .i64 0,.int .i64 0,.int .i64 0,.int .i64 0] 115:=by have:=Blk.new (w.alloc (.cells #[.string (bs n),.int .i64 cn,.string (bs (padW ts 0)),.string (bs (padW ts 1)),.string (bs (padW ts 2))] 54)) [.int .i64 0,.int .i64 0,.int .i64 0,.int .i64 0] 115;simp only[World.size_alloc]at this;exact this
 have hnone:∀q,w.heap.size<=q->own q=none:=by
  intro q hq
  cases e:own q with
  |none=>rfl
  |some o=>exact absurd (h.ok.lt _ o e).2 (by omega)
 have h0:=h.below hB0;have hv0:=hv.below hB0;have HA:=hid (addAnyS _ base tb 2 _ 110 V.nm V.nl D.names n h0.blk rfl rfl h0.names (by unfold maxLen;omega) (by omega) (by decide) h0.ok.base);obtain⟨p,HP⟩:∃p:Nat,Hid (p=posG (addG D.names n) n):=⟨_,rfl⟩;rw[<-HP.out]at HA
 go_cut [7] from 8 to 37 (fun x wx=>x=.int .i64 (p:Nat)/\∃own1 V1,TIs wx own1 base tb V1 ⟨D.m0,D.m1,D.ru,addG D.names n,D.consts,D.rules⟩ qs S sz/\VarIs wx own1 base vb vs mv lv/\Went ChW own w own1 wx/\Blk wx w.heap.size [.string (bs n),.int .i64 cn,.string (bs (padW ts 0)),.string (bs (padW ts 1)),.string (bs (padW ts 2))] 54/\Blk wx (w.heap.size+1) [.int .i64 0,.int .i64 0,.int .i64 0,.int .i64 0] 115/\own1 w.heap.size=none/\own1 (w.heap.size+1)=none)
 case first=>as_aux_lemma=>
  have htl:=h.blk.lt
  go_region_with (go_at_call 52;refine(HA.out).mono ?_;rintro e w1 ⟨rfl,m',l',hB1,hS1,hF1⟩)
  all_goals go_wp2_with fail
  all_goals go_meet
  all_goals
   obtain⟨hT1,ha⟩:=h0.addN hB1 hS1 hF1;have hW1:=Went.add (X:=ChW) ha (.inl rfl) (.inr (.inl rfl));refine⟨rfl,_,_,hT1,hv0.only ha.only ha.ext (fun q e=>by rw[e];simp),(Went.below hB0).trans hW1,hA0.went hW1 (hnone _ (Nat.le_refl _)),hO0.went hW1 (hnone _ (by omega)),hW1.none hA0.lt (hnone _ (Nat.le_refl _)),hW1.none hO0.lt (hnone _ (by omega))⟩
 case rest=>
  clear HA hA0 hO0 h0 hv0 hB0;obtain⟨rfl,own1,V1,hT1,hv1,hW1,hA1,hO1,hn1,hn2⟩:=hcut;obtain⟨w1,hw1⟩:∃x:World,x=wc:=⟨wc,rfl⟩;subst hw1;have hlA:=hA1.lt;have hlO:=hO1.lt;have c2:w1.cell? ⟨w.heap.size,2,none⟩=some (.string (bs (padW ts 0))):=hA1.cell 2;have c3:w1.cell? ⟨w.heap.size,3,none⟩=some (.string (bs (padW ts 1))):=hA1.cell 3;have c4:w1.cell? ⟨w.heap.size,4,none⟩=some (.string (bs (padW ts 2))):=hA1.cell 4;have hK0:=Blk.new w1 (cellsTo (D.consts,vs) ts p 0) 115;have hBa:Below w1.heap.size w1 (w1.alloc (.cells (cellsTo (D.consts,vs) ts p 0).toArray 115)):=below_alloc w1 _
  have hKn:own1 w1.heap.size=none:=by
   cases e:own1 w1.heap.size with
   |none=>rfl
   |some o=>exact absurd (hT1.ok.lt _ o e).2 (by omega)
  have i0:=idx_at0 (bs (padW ts 0)) (bs (padW ts 1)) (bs (padW ts 2));have i1:=idx_at1 (bs (padW ts 0)) (bs (padW ts 1)) (bs (padW ts 2));have i2:=idx_at2 (bs (padW ts 0)) (bs (padW ts 1)) (bs (padW ts 2));obtain⟨K,HK⟩:∃K,Hid (K=w1.heap.size):=⟨_,rfl⟩;go_wp2_with fail;rw[<-HK.out]
  go_loopw [25] (fun iv wr=>∃(i:Nat) (own2:OwnF) (V2:TV) (mv2 lv2:Value),i<=3/\iv=.int .i64 i/\TIs wr own2 base tb V2 ⟨D.m0,D.m1,D.ru,addG D.names n,(rowTo (D.consts,vs) ts i).1,D.rules⟩ qs S sz/\VarIs wr own2 base vb (rowTo (D.consts,vs) ts i).2 mv2 lv2/\Went ChW own w own2 wr/\Blk wr K (cellsTo (D.consts,vs) ts p i) 115/\Blk wr (w.heap.size+1) [.int .i64 0,.int .i64 0,.int .i64 0,.int .i64 0] 115/\own2 K=none/\own2 (w.heap.size+1)=none) (fun iv _=>3-(intOf iv).toNat)
  case atStart=>exact⟨0,own1,V1,mv,lv,by omega,rfl,hT1.below hBa,hv1.below hBa,hW1.thenBelow hBa,by rw[HK.out];exact hK0,hO1.below hBa,by rw[HK.out];exact hKn,hn2⟩
  case round=>
   have hKO:K≠w.heap.size+1:=by rw[HK.out];omega
   have hKw:w.heap.size<=K:=by rw[HK.out];exact hW1.only.size
   clear hK0 hBa hKn hT1 hv1 hW1 hA1 hO1 hlA hlO c2 c3 c4 hn1 hn2 HK;obtain⟨i,own2,V2,mv2,lv2,hi,rfl,hT2,hv2,hW2,hK2,hO2,hn3,hn4⟩:=hrel;have hlen:=rowTo_len (D.consts,vs) ts i hi;simp only at hlen;have hlK:=hK2.lt;have hlO:=hO2.lt;by_cases hlt:i<3
   ·rcases(show i=0\/i=1\/i=2 by omega) with h0|h0|h0
    ·as_aux_lemma=>
     subst h0;rw[show((0:Nat):Int)=0 from rfl]at*;have HC:=hid (codeTerm_t hT2 hv2 (padW ts 0) (Nat.le_trans (ht 0) (by unfold maxLen;omega)) (by simp only;omega) (by omega));go_wp2_with (go_at_call 89;refine(HC.out).mono ?_;rintro e w3 ⟨own3,V3,mv3,lv3,rfl,hT3,hv3,hW3⟩;have hK3:=hK2.went hW3 hn3;have hO3:=hO2.went hW3 hn4;have hn5:=hW3.none hlK hn3;have hn6:=hW3.none hlO hn4;have hl3:=hK3.lt;have fK:=hK3.frozen;have k0:w3.cell? ⟨K,1,none⟩=some (.int .i64 0):=hK3.cell 1);have hOn:Only (fun q=>q=K) w3 (w3.setCell ⟨K,1,none⟩ (.int .i64 (codeTo (D.consts,vs) ts 0))):=(Only.of_below (S:=fun q=>q=K) (Below.refl _ _)).setCell (p:=⟨K,1,none⟩) (.inl rfl) _;have hNo:∀q o,own3 q=some o->¬q=K:=fun q o e e'=>by rw[e',hn5]at e;cases e
     refine⟨⟨1,own3,V3,mv3,lv3,by omega,rfl,hT3.only hOn (.refl 0 _) (hT3.ok.below (by simp[World.setCell])) (fun q o e _ _=>hNo q o e),hv3.only hOn (.refl 0 _) (fun q e=>hNo q _ e),?_,?_,hO3.setOther ⟨K,1,none⟩ _ (Ne.symm hKO),hn5,hn6⟩,by simp[intOf]⟩
     ·exact⟨(hW2.trans hW3).only.setCell (p:=⟨K,1,none⟩) (.inr hKw) _,(hW2.trans hW3).ext⟩
     ·exact hK3.setCell 1 _
    ·as_aux_lemma=>
     subst h0;rw[show((1:Nat):Int)=1 from rfl]at*;have HC:=hid (codeTerm_t hT2 hv2 (padW ts 1) (Nat.le_trans (ht 1) (by unfold maxLen;omega)) (by simp only;omega) (by omega));go_wp2_with (go_at_call 89;refine(HC.out).mono ?_;rintro e w3 ⟨own3,V3,mv3,lv3,rfl,hT3,hv3,hW3⟩;have hK3:=hK2.went hW3 hn3;have hO3:=hO2.went hW3 hn4;have hn5:=hW3.none hlK hn3;have hn6:=hW3.none hlO hn4;have hl3:=hK3.lt;have fK:=hK3.frozen;have k0:w3.cell? ⟨K,2,none⟩=some (.int .i64 0):=hK3.cell 2);have hOn:Only (fun q=>q=K) w3 (w3.setCell ⟨K,2,none⟩ (.int .i64 (codeTo (D.consts,vs) ts 1))):=(Only.of_below (S:=fun q=>q=K) (Below.refl _ _)).setCell (p:=⟨K,2,none⟩) (.inl rfl) _;have hNo:∀q o,own3 q=some o->¬q=K:=fun q o e e'=>by rw[e',hn5]at e;cases e
     refine⟨⟨2,own3,V3,mv3,lv3,by omega,rfl,hT3.only hOn (.refl 0 _) (hT3.ok.below (by simp[World.setCell])) (fun q o e _ _=>hNo q o e),hv3.only hOn (.refl 0 _) (fun q e=>hNo q _ e),?_,?_,hO3.setOther ⟨K,2,none⟩ _ (Ne.symm hKO),hn5,hn6⟩,by simp[intOf]⟩
     ·exact⟨(hW2.trans hW3).only.setCell (p:=⟨K,2,none⟩) (.inr hKw) _,(hW2.trans hW3).ext⟩
     ·exact hK3.setCell 2 _
    ·as_aux_lemma=>
     subst h0;rw[show((2:Nat):Int)=2 from rfl]at*;have HC:=hid (codeTerm_t hT2 hv2 (padW ts 2) (Nat.le_trans (ht 2) (by unfold maxLen;omega)) (by simp only;omega) (by omega));go_wp2_with (go_at_call 89;refine(HC.out).mono ?_;rintro e w3 ⟨own3,V3,mv3,lv3,rfl,hT3,hv3,hW3⟩;have hK3:=hK2.went hW3 hn3;have hO3:=hO2.went hW3 hn4;have hn5:=hW3.none hlK hn3;have hn6:=hW3.none hlO hn4;have hl3:=hK3.lt;have fK:=hK3.frozen;have k0:w3.cell? ⟨K,3,none⟩=some (.int .i64 0):=hK3.cell 3);have hOn:Only (fun q=>q=K) w3 (w3.setCell ⟨K,3,none⟩ (.int .i64 (codeTo (D.consts,vs) ts 2))):=(Only.of_below (S:=fun q=>q=K) (Below.refl _ _)).setCell (p:=⟨K,3,none⟩) (.inl rfl) _;have hNo:∀q o,own3 q=some o->¬q=K:=fun q o e e'=>by rw[e',hn5]at e;cases e
     refine⟨⟨3,own3,V3,mv3,lv3,by omega,rfl,hT3.only hOn (.refl 0 _) (hT3.ok.below (by simp[World.setCell])) (fun q o e _ _=>hNo q o e),hv3.only hOn (.refl 0 _) (fun q e=>hNo q _ e),?_,?_,hO3.setOther ⟨K,3,none⟩ _ (Ne.symm hKO),hn5,hn6⟩,by simp[intOf]⟩
     ·exact⟨(hW2.trans hW3).only.setCell (p:=⟨K,3,none⟩) (.inr hKw) _,(hW2.trans hW3).ext⟩
     ·exact hK3.setCell 3 _
   ·have hie:i=3:=by omega
    subst hie;rw[show((3:Nat):Int)=3 from rfl]at*;have k0:wr.cell? ⟨K,0,none⟩=some (.int .i64 (p:Nat)):=hK2.cell 0;have k1:wr.cell? ⟨K,1,none⟩=some (.int .i64 (codeTo (D.consts,vs) ts 0)):=hK2.cell 1;have k2:wr.cell? ⟨K,2,none⟩=some (.int .i64 (codeTo (D.consts,vs) ts 1)):=hK2.cell 2;have k3:wr.cell? ⟨K,3,none⟩=some (.int .i64 (codeTo (D.consts,vs) ts 2)):=hK2.cell 3;have fO:=hO2.frozen;have o0:wr.cell? ⟨w.heap.size+1,0,none⟩=some (.int .i64 0):=hO2.cell 0;have o1:wr.cell? ⟨w.heap.size+1,1,none⟩=some (.int .i64 0):=hO2.cell 1;have o2:wr.cell? ⟨w.heap.size+1,2,none⟩=some (.int .i64 0):=hO2.cell 2;have o3:wr.cell? ⟨w.heap.size+1,3,none⟩=some (.int .i64 0):=hO2.cell 3;have hcode:=rowW_code (D.consts,vs) ts;have hOn:∀a b c d:Value,Only (fun q=>q=w.heap.size+1) wr ((((wr.setCell ⟨w.heap.size+1,0,none⟩ a).setCell ⟨w.heap.size+1,1,none⟩ b).setCell ⟨w.heap.size+1,2,none⟩ c).setCell ⟨w.heap.size+1,3,none⟩ d):=fun a b c d=>((((Only.of_below (S:=fun q=>q=w.heap.size+1) (Below.refl _ _)).setCell (p:=⟨w.heap.size+1,0,none⟩) (.inl rfl) _).setCell (p:=⟨w.heap.size+1,1,none⟩) (.inl rfl) _).setCell (p:=⟨w.heap.size+1,2,none⟩) (.inl rfl) _).setCell (p:=⟨w.heap.size+1,3,none⟩) (.inl rfl) _;have hNo:∀q o,own2 q=some o->¬q=w.heap.size+1:=fun q o e e'=>by rw[e',hn4]at e;cases e
    have hval:(cellsA (codeA (atomW (D.names,D.consts,vs) n ts).1 (atomW (D.names,D.consts,vs) n ts).2.1 (atomW (D.names,D.consts,vs) n ts).2.2 n ts))=[.int .i64 (p:Nat),.int .i64 (codeTo (D.consts,vs) ts 0),.int .i64 (codeTo (D.consts,vs) ts 1),.int .i64 (codeTo (D.consts,vs) ts 2)]:=by unfold cellsA codeA;rw[show codeR (atomW (D.names,D.consts,vs) n ts).2.1 (atomW (D.names,D.consts,vs) n ts).2.2 ts=codeR (rowW (D.consts,vs) ts).1 (rowW (D.consts,vs) ts).2 ts from rfl,hcode,HP.out];rfl
    go_wp2_with fail;refine bodyPost_ret (v:=.agg #[.int .i64 (p:Nat),.int .i64 (codeTo (D.consts,vs) ts 0),.int .i64 (codeTo (D.consts,vs) ts 1),.int .i64 (codeTo (D.consts,vs) ts 2)]) (by simp[results,results67,go_sem,o0,o1,o2,o3]) rfl ?_;refine⟨own2,V2,mv2,lv2,by rw[hval],hT2.only (hOn _ _ _ _) (.refl 0 _) (hT2.ok.below (by simp[World.setCell])) (fun q o e _ _=>hNo q o e),hv2.only (hOn _ _ _ _) (.refl 0 _) (fun q e=>hNo q _ e),⟨?_,hW2.ext⟩⟩;exact(((hW2.only.setCell (p:=⟨w.heap.size+1,0,none⟩) (.inr (by show w.heap.size<=w.heap.size+1;omega)) _).setCell (p:=⟨w.heap.size+1,1,none⟩) (.inr (by show w.heap.size<=w.heap.size+1;omega)) _).setCell (p:=⟨w.heap.size+1,2,none⟩) (.inr (by show w.heap.size<=w.heap.size+1;omega)) _).setCell (p:=⟨w.heap.size+1,3,none⟩) (.inr (by show w.heap.size<=w.heap.size+1;omega)) _
end
end Go.Proofs.YtpbfiffgcgnidaaGreat
