import Derived.Test.YtpbfiffgcgnidaaGreatYal
import Derived.Deep.RegionHeld3
import Derived.Test.YtpbfiffgcgnidaaGreatY22
import Derived.Test.YtpbfiffgcgnidaaGreatY36
namespace Go.Proofs.YtpbfiffgcgnidaaGreat
set_option maxRecDepth 100000
set_option maxHeartbeats 4000000
set_option linter.unusedSectionVars false
set_option linter.unusedSimpArgs false
open Go.Proofs.Tryz
section
attribute [local go_sem] drewN_alloc drewN_setCell
open Go.RowKit Go.WideMaps Go.Maps
variable [DecidableEq R3] [DecidableEq A4]
section
variable {w w':World} {own:OwnF} {base tb:Nat} {V:TV} {D:TD} {qs:List A4} {sz:Nat}
theorem TIs.addR(h:TIs w own base tb V D qs [] sz){l':Value}{xs':List RuD}(hB:Blk w' tb [D.m0,D.m1,V.nm,V.nl,V.cm,V.cl,l',V.qm,V.ql,V.li,.int .i64 (sz:Nat)] 110)(hS:w'.ownsRow base 118 22 l' xs'.length (xs'.flatMap cellsU))(hf:AddFrame w w' tb (.map none) D.ru (.map none) l'):
 TIs w' (ownAdd own (1,2) (.map none) l') base tb ⟨V.nm,V.nl,V.cm,V.cl,V.qm,V.ql,V.li⟩ ⟨D.m0,D.m1,l',D.names,D.consts,xs'⟩ qs [] sz/\AddOwn own base w w' (0,0) (1,2) (.map none) l':=by
 have ha:=frame_own h.ok hf h.ot (fun s e=>by simp at e) (Owns.nil_map own (1,2)) h.oru ⟨rfl,shape_of hS⟩ ⟨fun q hq=>hS.lt q hq,fun q hq=>by simp[mapBlock]at hq⟩
 have ho:Only (fun q=>q=tb\/own q=some (1,2)) w w':=hf.only.mono (by
  rintro q (e|e|e)
  ·exact .inl e
  ·exact .inr ((Owns.nil_map own (1,2)) q (.inl e))
  ·exact .inr (h.oru q (.inr e)))
 have f:=fun(o:Owner) (hn:o≠(0,0)) (hn':o≠(1,2)) q (e:own q=some o)=>(by
  rintro(e'|e')
  ·rw[e',h.ot]at e
   injection e with e
   exact hn e.symm
  ·rw[e]at e'
   injection e' with e'
   exact hn' e':¬(q=tb\/own q=some (1,2)))
 have z:=fun q (hn:q≠tb) (e:own q=some (0,0))=>(by
  rintro(e'|e')
  ·exact hn e'
  ·rw[e]at e'
   simp at e':¬(q=tb\/own q=some (1,2)))
 refine⟨⟨ha.ok,hB,h.names.only ho (fun q hq=>f (1,0) (by simp) (by simp) q (h.onl q (.inr hq))) (fun q hq=>f (1,0) (by simp) (by simp) q (h.onm q (.inl hq))),h.consts.only ho (fun q hq=>f (1,1) (by simp) (by simp) q (h.ocl q (.inr hq))) (fun q hq=>f (1,1) (by simp) (by simp) q (h.ocm q (.inl hq))),hS,h.qs.only ho (fun q hq=>z q (fun e=>own_ne h.qs.1 h.blk (by decide) (e▸hq)) (h.oql q (.inr hq))) (fun q hq=>z q (fun e=>?_) (h.oqm q (.inl hq))),own_only h.list ho (fun q hq=>z q (fun e=>own_ne h.list h.blk (by decide) (e▸hq)) (h.oli q (.inr hq))),ha.ext.keep _ _ h.ot,h.oqm.ext ha.ext,h.oql.ext ha.ext,h.oli.ext ha.ext,h.onm.ext ha.ext,h.onl.ext ha.ext,h.ocm.ext ha.ext,h.ocl.ext ha.ext,ha.ol,?_⟩,ha⟩
 ·rcases h.qs.2.2 with⟨e',_⟩|⟨r,D,e',_,hw,_⟩
  ·rw[e']at hq;simp[mapBlock]at hq
  ·rw[e']at hq;simp only[mapBlock,Option.some.injEq]at hq;exact map_ne hw h.blk (by omega)
 ·intro i t ht;simp at ht
end
theorem wp_buildU{o:Oper}{a:Act}{w:World}{K:Act->World->Prop}{Q:Exit->Act->World->Prop}(x:Operand)(ho:o.op=.buildSlice 103 1 #[(0,x)])(q:RuD)(hx:a.eval x=.agg (cellsU q).toArray)(h:K (a.put o.dst (.slice (some ⟨w.heap.size,0,none⟩) 1 1)) (w.alloc (.cells (cellsU q).toArray 118))):o.wp prog a w K Q:=by
 obtain⟨i1,hi1,hy0,hy1,hy2⟩:=info_parts infoUU;refine wp_buildSlice 103 118 1 _ ho (cellsU q).toArray i1 _ underlying103 hi1 hy0 (by rw[hy1];decide) (by rw[hy1];decide) ?_ h;have e:(#[(0,x)].map fun(i,x)=>(i,a.eval x)).toList=[(0,Value.agg (cellsU q).toArray)]:=by simp[hx]
 rw[e,hy1];exact fillU q
theorem ruleW_len(nm cl:List B8)(d:ClD)(h:d.lits.length<=4):(ruleW nm cl d).1.length<=nm.length+5/\(ruleW nm cl d).2.1.length<=cl.length+15:=by have h1:=atomW_len (nm,cl,[]) d.name d.ts;have h2:=litsW_len (atomW (nm,cl,[]) d.name d.ts) d.sorted;have a1:=h1.a;have a2:=h1.b;have b1:=h2.a;have b2:=h2.b;rw[d.sorted_len]at b1 b2;unfold ruleW;simp only at a1 a2;omega
theorem allW_snoc(nm cl:List B8)(ds:List ClD)(d:ClD):allW nm cl (ds++[d])=((ruleW (allW nm cl ds).1 (allW nm cl ds).2 d).1,(ruleW (allW nm cl ds).1 (allW nm cl ds).2 d).2.1):=by unfold allW;rw[List.foldl_append];rfl
theorem allW_cons(nm cl:List B8)(d:ClD)(ds:List ClD):allW nm cl (d::ds)=allW (ruleW nm cl d).1 (ruleW nm cl d).2.1 ds:=rfl
theorem rulesW_snoc(nm cl:List B8)(ds:List ClD)(d:ClD):rulesW nm cl (ds++[d])=rulesW nm cl ds++[codeU (ruleW (allW nm cl ds).1 (allW nm cl ds).2 d).1 (ruleW (allW nm cl ds).1 (allW nm cl ds).2 d).2.1 (ruleW (allW nm cl ds).1 (allW nm cl ds).2 d).2.2 d]:=by
 induction ds generalizing nm cl with
 |nil=>rfl
 |cons a r ih=>show _::rulesW _ _ (r++[d])=_::(rulesW _ _ r++_);rw[ih,allW_cons]
theorem rulesW_len(nm cl:List B8)(ds:List ClD):(rulesW nm cl ds).length=ds.length:=by
 induction ds generalizing nm cl with
 |nil=>rfl
 |cons a r ih=>simp[rulesW,ih]
theorem allW_len(nm cl:List B8)(ds:List ClD)(h:∀d∈ds,d.lits.length<=4):(allW nm cl ds).1.length<=nm.length+5*ds.length/\(allW nm cl ds).2.length<=cl.length+15*ds.length:=by
 induction ds generalizing nm cl with
 |nil=>exact⟨by simp[allW],by simp[allW]⟩
 |cons a r ih=>have h1:=ruleW_len nm cl a (h a (List.mem_cons_self ..));have h2:=ih (ruleW nm cl a).1 (ruleW nm cl a).2.1 (fun d hd=>h d (List.mem_cons_of_mem _ hd));rw[allW_cons,List.length_cons];omega
def ownOne(tb:Nat):OwnF:=fun q=>if q=tb then some (0,0) else none
theorem new_c(w:World)(base:Nat)(ao:Option Addr)(cap:Nat)(ds:List ClD)(hP:ClausesIs w base (.slice ao ds.length cap) ds)(hW:∀d∈ds,d.WF)(hn:ds.length<=40):
 Calls prog 29 #[.slice ao ds.length cap] w fun e w'=>∃(own:OwnF) (V:TV) (ru:Value),e=.returned (.pointer (some ⟨w.heap.size,0,none⟩))/\TIs w' own w.heap.size w.heap.size V ⟨.int .i32 0,.int .u32 0,ru,(allW [] [] ds).1,(allW [] [] ds).2,rulesW [] [] ds⟩ [] [] 0/\Below w.heap.size w w':=by
 obtain⟨i1,hi1,hy0,hy1,hy2⟩:=info_parts infoUU;go_enter func29,ntmps29;go_wp2_with fail
 go_loopw [10] (fun iv wr=>∃(k:Nat) (own:OwnF) (V:TV) (ru:Value),iv=.int .i64 (k:Nat)/\k<=ds.length/\TIs wr own w.heap.size w.heap.size V ⟨.int .i32 0,.int .u32 0,ru,(allW [] [] (ds.take k)).1,(allW [] [] (ds.take k)).2,rulesW [] [] (ds.take k)⟩ [] [] 0/\Below w.heap.size w wr) (fun iv _=>ds.length-(intOf iv).toNat)
 case atStart=>
  have hB:=Blk.new w [.int .i32 0,.int .u32 0,.map none,.slice none 0 0,.map none,.slice none 0 0,.slice none 0 0,.map none,.slice none 0 0,.slice none 0 0,.int .i64 0] 110;have hl:=hB.lt;refine⟨0,ownOne w.heap.size,⟨.map none,.slice none 0 0,.map none,.slice none 0 0,.map none,.slice none 0 0,.slice none 0 0⟩,.slice none 0 0,rfl,Nat.zero_le _,⟨⟨?_,by omega,?_⟩,hB,SetIsS.nil _ _,SetIsS.nil _ _,World.ownsRow_nil _ _ _ _,SetIsA.nil _ _,World.ownsRow_nil _ _ _ _,by simp[ownOne],Owns.nil_map _ _,Owns.nil_slice _ _,Owns.nil_slice _ _,Owns.nil_map _ _,Owns.nil_slice _ _,Owns.nil_map _ _,Owns.nil_slice _ _,Owns.nil_slice _ _,fun i t ht=>by simp at ht⟩,below_alloc w _⟩
  ·intro q o e;unfold ownOne at e
   split at e
   ·omega
   ·cases e
  ·intro q s e;unfold ownOne at e
   split at e
   ·simp at e
   ·cases e
 case round=>
  obtain⟨k,own,V,ru,rfl,hk,hT,hB⟩:=hrel;by_cases hlt:k<ds.length
  ·obtain⟨g,bo,bcap,rfl,hg,e0,e1,e2,e3,e4,e5,hLb⟩:=clause_at hP k hlt;have hwf:=hW ds[k] (List.getElem_mem hlt);have HTK:=hid (List.take_succ_eq_append_getElem hlt);have hal:=allW_len [] [] (ds.take k) (fun d hd=>(hW d (List.mem_of_mem_take hd)).lits);have htl:(ds.take k).length=k:=by simp;omega
   rw[htl]at hal;simp only[List.length_nil]at hal;have HRL:=hid (rulesW_len [] [] (ds.take k));generalize ds[k]=d at*;obtain⟨x,HX⟩:∃x,Hid (x=allW [] [] (ds.take k)):=⟨_,rfl⟩;obtain⟨rs,HRS⟩:∃rs,Hid (rs=rulesW [] [] (ds.take k)):=⟨_,rfl⟩;rw[<-HX.out]at hal;rw[<-HX.out,<-HRS.out]at hT;obtain⟨ro,rc,hru⟩:=own_form hT.rules;simp only at hru;subst hru;obtain⟨rl,HRLe⟩:∃rl,Hid (rs.length=rl):=⟨_,rfl⟩;have hrl:rl<=40:=by have:=HRL.out;rw[<-HRS.out,HRLe.out,htl]at this;omega
   rw[HRLe.out]at hT;rw[<-hB.cell (p:=⟨g,k*6,none⟩) hg]at e0;rw[<-hB.cell (p:=⟨g,k*6+1,none⟩) hg]at e1;rw[<-hB.cell (p:=⟨g,k*6+2,none⟩) hg]at e2;rw[<-hB.cell (p:=⟨g,k*6+3,none⟩) hg]at e3;rw[<-hB.cell (p:=⟨g,k*6+4,none⟩) hg]at e4;rw[<-hB.cell (p:=⟨g,k*6+5,none⟩) hg]at e5;have hbl:=hT.blk.lt;have hBr:Below wr.heap.size wr (wr.alloc (.cells #[Value.string d.nm,.int .i64 d.cn,.string (d.t 0),.string (d.t 1),.string (d.t 2),.slice bo d.lits.length bcap] 60)).drew:=(below_alloc _ _).drew;have hCl:Blk (wr.alloc (.cells #[Value.string d.nm,.int .i64 d.cn,.string (d.t 0),.string (d.t 1),.string (d.t 2),.slice bo d.lits.length bcap] 60)).drew wr.heap.size [.string d.nm,.int .i64 d.cn,.string (d.t 0),.string (d.t 1),.string (d.t 2),.slice bo d.lits.length bcap] 60:=(Blk.new wr _ _).drew
   have hnC:own wr.heap.size=none:=by
    cases e:own wr.heap.size with
    |none=>rfl
    |some o=>exact absurd (hT.ok.lt _ o e).2 (by omega)
   have c6:wr.cell? ⟨w.heap.size,6,none⟩=some (.slice ro rl rc):=hT.blk.cell 6;obtain⟨q,HQ⟩:∃q,Hid (q=codeU (ruleW x.1 x.2 d).1 (ruleW x.1 x.2 d).2.1 (ruleW x.1 x.2 d).2.2 d):=⟨_,rfl⟩
   have HC:=hid (codeRule_c (hT.below hBr) d bo bcap (own_below (own_below hLb hB) hBr) (fun y hy=>by
    cases e:own y with
    |none=>rfl
    |some o=>exact absurd (hT.ok.lt y o e).1 (by have:=(hLb.lt y hy).2;omega)) hwf (by simp only;omega) (by simp only;omega))
   rw[<-HQ.out]at HC
   have HEnd:=hid (show ∀(own4:OwnF) (V4:TV) (w4:World) (g2 cap2:Nat) (w6:World),TIs w4 own4 w.heap.size w.heap.size V4 ⟨.int .i32 0,.int .u32 0,.slice ro rl rc,(ruleW x.1 x.2 d).1,(ruleW x.1 x.2 d).2.1,rs⟩ [] [] 0->Went ChW own (wr.alloc (.cells #[Value.string d.nm,.int .i64 d.cn,.string (d.t 0),.string (d.t 1),.string (d.t 2),.slice bo d.lits.length bcap] 60)).drew own4 w4->w6.ownsRow w.heap.size 118 22 (.slice (some ⟨g2,0,none⟩) (rl+1) cap2) (rl+1) (rs.flatMap cellsU++cellsU q)->(w4.alloc (.cells (cellsU q).toArray 118)).grownBy w6 (Value.slice ro rl rc).ownBlock->(some g2=(Value.slice ro rl rc).ownBlock\/g2=(w4.alloc (.cells (cellsU q).toArray 118)).heap.size)->Blk w6 w.heap.size [.int .i32 0,.int .u32 0,V4.nm,V4.nl,V4.cm,V4.cl,.slice ro rl rc,V4.qm,V4.ql,V4.li,.int .i64 ((0:Nat):Int)] 110->(∃(k':Nat) (own':OwnF) (V':TV) (ru':Value),Value.int .i64 ((k:Int)+1)=.int .i64 (k':Nat)/\k'<=ds.length/\TIs (w6.setCell ⟨w.heap.size,6,none⟩ (.slice (some ⟨g2,0,none⟩) (rl+1) cap2)) own' w.heap.size w.heap.size V' ⟨.int .i32 0,.int .u32 0,ru',(allW [] [] (ds.take k')).1,(allW [] [] (ds.take k')).2,rulesW [] [] (ds.take k')⟩ [] [] 0/\Below w.heap.size w (w6.setCell ⟨w.heap.size,6,none⟩ (.slice (some ⟨g2,0,none⟩) (rl+1) cap2)))/\ds.length-(intOf (.int .i64 ((k:Int)+1))).toNat<ds.length-(intOf (.int .i64 (k:Nat))).toNat by
    intro own4 V4 w4 g2 cap2 w6 hT4 hW4 hL6 hg6 hwh6 hb6
    have hf:AddFrame w4 (w6.setCell ⟨w.heap.size,6,none⟩ (.slice (some ⟨g2,0,none⟩) (rl+1) cap2)) w.heap.size (.map none) (.slice ro rl rc) (.map none) (.slice (some ⟨g2,0,none⟩) (rl+1) cap2):=by
     refine⟨((Only.of_below (below_alloc w4 _)).grown hg6 (fun y hy=>.inl (.inr (.inr hy)))).setCell (p:=⟨w.heap.size,6,none⟩) (.inl (.inl rfl)) _,.inl rfl,?_⟩;rcases hwh6 with h1|h1
     ·left
      rw[<-h1];rfl
     ·right
      intro y hy;simp[Value.ownBlock]at hy;simp at h1;omega
    have hS7:(w6.setCell ⟨w.heap.size,6,none⟩ (.slice (some ⟨g2,0,none⟩) (rl+1) cap2)).ownsRow w.heap.size 118 22 (.slice (some ⟨g2,0,none⟩) (rl+1) cap2) (rs++[q]).length ((rs++[q]).flatMap cellsU):=by rw[List.length_append,HRLe.out,List.flatMap_append];simpa using own_set hL6 ⟨w.heap.size,6,none⟩ _ (own_ne hL6 hb6 (by decide))
    obtain⟨hT7,ha⟩:=hT4.addR (hb6.setCell 6 _) hS7 hf;have hWall:=(Went.below (X:=ChW) hBr).trans (hW4.trans (Went.add ha (.inl rfl) (.inr (.inl rfl))));refine⟨⟨k+1,ownAdd own4 (1,2) (.map none) (.slice (some ⟨g2,0,none⟩) (rl+1) cap2),⟨V4.nm,V4.nl,V4.cm,V4.cl,V4.qm,V4.ql,V4.li⟩,.slice (some ⟨g2,0,none⟩) (rl+1) cap2,by go_num,hlt,?_,hB.trans (hWall.only.below hB.size ?_)⟩,by simp[intOf];omega⟩
    ·rw[HTK.out,allW_snoc,rulesW_snoc,<-HX.out,<-HRS.out,<-HQ.out];exact hT7
    ·rintro y ⟨o,e,_⟩
     exact(hT.ok.lt y o e).1)
   go_upto_region 5 with fail
   as_aux_lemma=>
    refine wp_region_held_drew (S:=fun W=>Blk W wr.heap.size [.string d.nm,.int .i64 d.cn,.string (d.t 0),.string (d.t 1),.string (d.t 2),.slice bo d.lits.length bcap] 60) (by kernel_rfl) hCl (fun hH=>?_);refine wpAnyH_take (i:=0) (v:=.pointer (some ⟨w.heap.size,0,none⟩)) rfl (by kernel_rfl) (by kernel_rfl) (by kernel_rfl) (fun _ _ _ h=>h) (Or.inl ⟨by rfl,fun W hW=>by go_simp⟩) hH ?_
    try simp only[List.getElem_toArray,List.getElem_cons_zero,List.getElem_cons_succ,Act.put,List.setIfInBounds_toArray,List.set_cons_zero,List.set_cons_succ]
    refine wpAnyH_take (i:=1) (v:=.pointer (some ⟨w.heap.size,0,none⟩)) rfl (by kernel_rfl) (by kernel_rfl) (by kernel_rfl) (fun _ _ _ h=>h) (Or.inl ⟨by rfl,fun W hW=>by go_simp⟩) hH ?_
    try simp only[List.getElem_toArray,List.getElem_cons_zero,List.getElem_cons_succ,Act.put,List.setIfInBounds_toArray,List.set_cons_zero,List.set_cons_succ]
    refine wpAnyH_take (i:=2) (v:=.pointer (some ⟨w.heap.size,0,none⟩)) rfl (by kernel_rfl) (by kernel_rfl) (by kernel_rfl) (fun _ _ _ h=>h) (Or.inl ⟨by rfl,fun W hW=>by go_simp⟩) hH ?_
    try simp only[List.getElem_toArray,List.getElem_cons_zero,List.getElem_cons_succ,Act.put,List.setIfInBounds_toArray,List.set_cons_zero,List.set_cons_succ]
    refine wpAnyH_take (i:=3) (v:=.pointer (some ⟨w.heap.size,6,none⟩)) rfl (by kernel_rfl) (by kernel_rfl) (by kernel_rfl) (fun _ _ _ h=>h) (Or.inl ⟨by rfl,fun W hW=>by go_simp⟩) hH ?_
    try simp only[List.getElem_toArray,List.getElem_cons_zero,List.getElem_cons_succ,Act.put,List.setIfInBounds_toArray,List.set_cons_zero,List.set_cons_succ]
    refine wpAnyH_take (i:=5) (v:=.pointer (some ⟨w.heap.size,0,none⟩)) rfl (by kernel_rfl) (by kernel_rfl) (by kernel_rfl) (fun _ _ _ h=>h) (Or.inl ⟨by rfl,fun W hW=>by go_simp⟩) hH ?_
    try simp only[List.getElem_toArray,List.getElem_cons_zero,List.getElem_cons_succ,Act.put,List.setIfInBounds_toArray,List.set_cons_zero,List.set_cons_succ]
    refine wpAnyH_take (i:=6) (v:=.pointer (some ⟨w.heap.size,0,none⟩)) rfl (by kernel_rfl) (by kernel_rfl) (by kernel_rfl) (fun _ _ _ h=>h) (Or.inl ⟨by rfl,fun W hW=>by go_simp⟩) hH ?_
    try simp only[List.getElem_toArray,List.getElem_cons_zero,List.getElem_cons_succ,Act.put,List.setIfInBounds_toArray,List.set_cons_zero,List.set_cons_succ]
    refine wpAnyH_take (i:=7) (v:=.pointer (some ⟨w.heap.size,2,none⟩)) rfl (by kernel_rfl) (by kernel_rfl) (by kernel_rfl) (fun _ _ _ h=>h) (Or.inl ⟨by rfl,fun W hW=>by go_simp⟩) hH ?_
    try simp only[List.getElem_toArray,List.getElem_cons_zero,List.getElem_cons_succ,Act.put,List.setIfInBounds_toArray,List.set_cons_zero,List.set_cons_succ]
    refine wpAnyH_take (i:=8) (v:=.agg #[.string d.nm,.int .i64 d.cn,.string (d.t 0),.string (d.t 1),.string (d.t 2),.slice bo d.lits.length bcap]) rfl (by kernel_rfl) (by kernel_rfl) (by kernel_rfl) (fun _ _ _ h=>h) (Or.inl ⟨by rfl,fun W hW=>by have v0:W.cell? ⟨wr.heap.size,0,none⟩=some (.string d.nm):=hW.cell 0;have v1:W.cell? ⟨wr.heap.size,1,none⟩=some (.int .i64 d.cn):=hW.cell 1;have v2:W.cell? ⟨wr.heap.size,2,none⟩=some (.string (d.t 0)):=hW.cell 2;have v3:W.cell? ⟨wr.heap.size,3,none⟩=some (.string (d.t 1)):=hW.cell 3;have v4:W.cell? ⟨wr.heap.size,4,none⟩=some (.string (d.t 2)):=hW.cell 4;have v5:W.cell? ⟨wr.heap.size,5,none⟩=some (.slice bo d.lits.length bcap):=hW.cell 5;go_simp⟩) hH ?_
    try simp only[List.getElem_toArray,List.getElem_cons_zero,List.getElem_cons_succ,Act.put,List.setIfInBounds_toArray,List.set_cons_zero,List.set_cons_succ]
    refine wpAnyH_ready (rs:=[4,9]) (by kernel_rfl) (by simp) ?_;refine AllReadyH.cons rfl (fun K hK=> ?pa) ?pz1
    case' pz1=>refine AllReadyH.cons rfl (fun K hK=> ?pb) ?py1
    case py1=>exact AllReadyH.nil
    case' pa=>
     go_simp;refine hK.out _ _ hH (fun hH1=>?_)
     try simp only[List.getElem_toArray,List.getElem_cons_zero,List.getElem_cons_succ,Act.put,List.setIfInBounds_toArray,List.set_cons_zero,List.set_cons_succ]
     refine wpAnyH_ready (rs:=[9]) (by kernel_rfl) (by simp) ?_;refine AllReadyH.cons rfl (fun K hK=>?_) ?_
     rotate_left
     exact AllReadyH.nil;go_simp;go_wp2_with (go_at_call 45;refine(HC.out).mono ?_;rintro e w4 ⟨own4,V4,rfl,hT4,hW4⟩);have d6:w4.cell? ⟨w.heap.size,6,none⟩=some (.slice ro rl rc):=hT4.blk.cell 6;have hl4:=hT4.blk.lt;refine hK.out _ _ (Blk.went hH1 hW4 hnC) (fun hH2=>?_)
     try simp only[List.getElem_toArray,List.getElem_cons_zero,List.getElem_cons_succ,Act.put,List.setIfInBounds_toArray,List.set_cons_zero,List.set_cons_succ]
     refine wpAnyH_ready (rs:=[10]) (by kernel_rfl) (by simp) ?_;refine AllReadyH.cons rfl (fun K hK=>?_) ?_
     rotate_left
     exact AllReadyH.nil;rw[if_pos (by rfl)];refine wp_buildU (.tmp 23) rfl q rfl ?_;refine hK.out _ _ (Blk.alloc hH2 _) (fun hH3=>?_)
     try simp only[List.getElem_toArray,List.getElem_cons_zero,List.getElem_cons_succ,Act.put,List.setIfInBounds_toArray,List.set_cons_zero,List.set_cons_succ]
    case' pb=>
     go_simp;go_wp2_with (go_at_call 45;refine(HC.out).mono ?_;rintro e w4 ⟨own4,V4,rfl,hT4,hW4⟩);have d6:w4.cell? ⟨w.heap.size,6,none⟩=some (.slice ro rl rc):=hT4.blk.cell 6;have hl4:=hT4.blk.lt;refine hK.out _ _ (Blk.went hH hW4 hnC) (fun hH1=>?_)
     try simp only[List.getElem_toArray,List.getElem_cons_zero,List.getElem_cons_succ,Act.put,List.setIfInBounds_toArray,List.set_cons_zero,List.set_cons_succ]
     refine wpAnyH_ready (rs:=[4,10]) (by kernel_rfl) (by simp) ?_;refine AllReadyH.cons rfl (fun K hK=> ?pc) ?pz2
     case' pz2=>refine AllReadyH.cons rfl (fun K hK=> ?pd) ?py2
     case py2=>exact AllReadyH.nil
     case' pc=>
      go_simp;refine hK.out _ _ hH1 (fun hH2=>?_)
      try simp only[List.getElem_toArray,List.getElem_cons_zero,List.getElem_cons_succ,Act.put,List.setIfInBounds_toArray,List.set_cons_zero,List.set_cons_succ]
      refine wpAnyH_ready (rs:=[10]) (by kernel_rfl) (by simp) ?_;refine AllReadyH.cons rfl (fun K hK=>?_) ?_
      rotate_left
      exact AllReadyH.nil;rw[if_pos (by rfl)];refine wp_buildU (.tmp 23) rfl q rfl ?_;refine hK.out _ _ (Blk.alloc hH2 _) (fun hH3=>?_)
      try simp only[List.getElem_toArray,List.getElem_cons_zero,List.getElem_cons_succ,Act.put,List.setIfInBounds_toArray,List.set_cons_zero,List.set_cons_succ]
     case' pd=>
      rw[if_pos (by rfl)];refine wp_buildU (.tmp 23) rfl q rfl ?_;refine hK.out _ _ (Blk.alloc hH1 _) (fun hH2=>?_)
      try simp only[List.getElem_toArray,List.getElem_cons_zero,List.getElem_cons_succ,Act.put,List.setIfInBounds_toArray,List.set_cons_zero,List.set_cons_succ]
      refine wpAnyH_ready (rs:=[4]) (by kernel_rfl) (by simp) ?_;refine AllReadyH.cons rfl (fun K hK=>?_) ?_
      rotate_left
      exact AllReadyH.nil;go_simp;refine hK.out _ _ hH2 (fun hH3=>?_)
      try simp only[List.getElem_toArray,List.getElem_cons_zero,List.getElem_cons_succ,Act.put,List.setIfInBounds_toArray,List.set_cons_zero,List.set_cons_succ]
    all_goals
     refine wpAnyH_ready (rs:=[11]) (by kernel_rfl) (by simp) ?_;refine AllReadyH.cons rfl (fun K hK=>?_) ?_
     rotate_left
     exact AllReadyH.nil
     as_aux_lemma=>
      have hru4:w4.ownsRow w.heap.size 118 22 (.slice ro rl rc) rs.length (rs.flatMap cellsU):=hT4.rules;rw[HRLe.out]at hru4;have hbk:=hT4.blk.alloc (.cells (cellsU q).toArray 118);refine step_append_at _ rfl (.tmp 18) (.tmp 24) 103 rfl w.heap.size 118 i1 _ 22 176 underlying103 hi1 hy0 hy1 hy2 rfl (by decide) (.slice ro rl rc) rl (rs.flatMap cellsU) rfl (hru4.alloc _) ⟨w4.heap.size,0,none⟩ 1 1 (cellsU q) rfl (by decide) rfl (new_cells w4 (cellsU q) 118) (oneU' q) (by unfold maxLen;omega) (by omega) (by have:=hT4.ok.base;simp;omega) ?_;intro g2 cap2 w6 hL6 hg6 hwh6;have hb6:=hbk.grown hg6 (own_ne (hru4.alloc _) hbk (by decide));have g6:w6.cell? ⟨w.heap.size,6,none⟩=some (.slice ro rl rc):=hb6.cell 6;have f6:=hb6.frozen;have hl6:=hb6.lt;refine hK.out _ _ (Blk.grown hH3 hg6 (own_ne (hru4.alloc _) hH3 (by decide))) (fun hH4=>?_)
      try simp only[List.getElem_toArray,List.getElem_cons_zero,List.getElem_cons_succ,Act.put,List.setIfInBounds_toArray,List.set_cons_zero,List.set_cons_succ]
      refine wpAnyH_take (i:=12) (v:=.pointer (some ⟨w.heap.size,0,none⟩)) rfl (by kernel_rfl) (by kernel_rfl) (by kernel_rfl) (fun _ _ _ h=>h) (Or.inl ⟨by rfl,fun W hW=>by go_simp⟩) hH4 ?_
      try simp only[List.getElem_toArray,List.getElem_cons_zero,List.getElem_cons_succ,Act.put,List.setIfInBounds_toArray,List.set_cons_zero,List.set_cons_succ]
      refine wpAnyH_take (i:=13) (v:=.pointer (some ⟨w.heap.size,6,none⟩)) rfl (by kernel_rfl) (by kernel_rfl) (by kernel_rfl) (fun _ _ _ h=>h) (Or.inl ⟨by rfl,fun W hW=>by go_simp⟩) hH4 ?_
      try simp only[List.getElem_toArray,List.getElem_cons_zero,List.getElem_cons_succ,Act.put,List.setIfInBounds_toArray,List.set_cons_zero,List.set_cons_succ]
      refine wpAnyH_ready (rs:=[14]) (by kernel_rfl) (by simp) ?_;refine AllReadyH.cons rfl (fun K hK=>?_) ?_
      ·as_aux_lemma=>
       go_simp;refine hK.out _ _ (Blk.setOther hH4 ⟨w.heap.size,6,none⟩ _ (by show wr.heap.size≠w.heap.size;omega)) (fun hH9=>?_)
       try simp only[List.getElem_toArray,List.getElem_cons_zero,List.getElem_cons_succ,Act.put,List.setIfInBounds_toArray,List.set_cons_zero,List.set_cons_succ]
       refine wpAnyH_done (by kernel_rfl) ?_ _;go_wp2_with fail;exact HEnd.out own4 V4 w4 g2 cap2 w6 hT4 hW4 hL6 hg6 hwh6 hb6
      exact AllReadyH.nil
  ·have hd:decide ((k:Int)<(ds.length:Int))=false:=by simp;omega
   rw[show k=ds.length by omega,List.take_length]at hT;go_wp2_with fail
   go_ret
   exact⟨own,V,ru,rfl,hT,hB⟩
end
end Go.Proofs.YtpbfiffgcgnidaaGreat
