import Derived.Test.YtpbfiffgcgnidaaGreatYal
import Derived.Deep.Onto
import Derived.Test.YtpbfiffgcgnidaaGreatY4
import Derived.Test.YtpbfiffgcgnidaaGreatY36
import Derived.Test.YtpbfiffgcgnidaaGreatY37
namespace Go.Proofs.YtpbfiffgcgnidaaGreat
set_option maxRecDepth 100000
set_option maxHeartbeats 4000000
set_option linter.unusedSectionVars false
set_option linter.unusedSimpArgs false
open Go.Proofs.Tryz
section
attribute [local go_sem] drewN_alloc drewN_setCell
open Go.RowKit Go.WideMaps Go.Maps Go.MuLone
variable [DecidableEq R3] [DecidableEq A4]
section
variable {w:World} {own:OwnF} {base tb:Nat} {V:TV} {D:TD} {qs:List A4} {S:List TabD} {sz:Nat}
theorem TIs.setM(h:TIs w own base tb V D qs S sz)(u:Value):TIs (w.setCell ⟨tb,0,none⟩ u) own base tb V ⟨u,D.m1,D.ru,D.names,D.consts,D.rules⟩ qs S sz/\Only (fun q=>own q=some (0,0)) w (w.setCell ⟨tb,0,none⟩ u):=by
 have ho:Only (fun q=>q=tb) w (w.setCell ⟨tb,0,none⟩ u):=(Only.of_below (S:=fun q=>q=tb) (Below.refl _ _)).setCell (p:=⟨tb,0,none⟩) (.inl rfl) _;have r:=fun {e:TypeId} {size n:Nat} {v:Value} {xs:List Value} (hx:w.ownsRow base e size v n xs) (ht:110≠e)=>own_only hx ho (fun q hq e=>own_ne hx h.blk ht (e▸hq));have m:=fun {k:TypeId} {R:Value->Option (DataW Unit×List MemPlace)} {r n:Nat} {D:DataW Unit} (hx:w.ownsMap prog k R r n D)=>map_ne hx h.blk;have hb:=h.blk.setCell 0 u
 have hsS:∀{mv lv:Value} {xs:List B8},SetIsS w base mv lv xs->SetIsS (w.setCell ⟨tb,0,none⟩ u) base mv lv xs:=by
  intro mv lv xs hx;refine hx.only ho (fun q hq e=>own_ne hx.1 h.blk (by decide) (e▸hq)) (fun q hq e=>?_);rcases hx.2.2 with⟨rfl,_⟩|⟨r,D,rfl,_,hw,_⟩
  ·simp[mapBlock]at hq
  ·simp only[mapBlock,Option.some.injEq]at hq;exact m hw (by omega)
 have hsA:∀{mv lv:Value} {xs:List A4},SetIsA w base mv lv xs->SetIsA (w.setCell ⟨tb,0,none⟩ u) base mv lv xs:=by
  intro mv lv xs hx;refine hx.only ho (fun q hq e=>own_ne hx.1 h.blk (by decide) (e▸hq)) (fun q hq e=>?_);rcases hx.2.2 with⟨rfl,_⟩|⟨r,D,rfl,_,hw,_⟩
  ·simp[mapBlock]at hq
  ·simp only[mapBlock,Option.some.injEq]at hq;exact m hw (by omega)
 have hs:(w.setCell ⟨tb,0,none⟩ u).heap.size=w.heap.size:=by simp[World.setCell]
 refine⟨⟨h.ok.below (by omega),hb,hsS h.names,hsS h.consts,r h.rules (by decide),hsA h.qs,r h.list (by decide),h.ot,h.oqm,h.oql,h.oli,h.onm,h.onl,h.ocm,h.ocl,h.oru,?_⟩,ho.mono (fun q e=>e▸h.ot)⟩;intro i t ht;obtain⟨ru,mv,lv,hT⟩:=h.tabs i t ht;exact⟨ru,mv,lv,hT.only ho (.refl 0 own) (fun q k hk e1 e2=>by rw[e2,h.ot]at e1;rcases hk with rfl|rfl<;>simp at e1)⟩
end
def ansC(nm:ByteArray)(cn:Int)(cl:List B8)(x:R3):List Value:=[.string nm,.int .i64 cn,.string (bs (cl.getD x.a.toNat [])),.string (bs (cl.getD x.b.toNat [])),.string (bs (cl.getD x.c.toNat []))]
structure AnsPost(M:Int->R3->Prop)(N C base tb:Nat)(D:TD)(w:World)(own:OwnF)(S:List TabD)(q:A4)(nm:ByteArray)(cn:Int)(v:Value)(w':World)(own':OwnF)(S':List TabD)(rows:List R3):Prop where
 tb:Tb base tb D w' own' S'
 inv:Inv M N C S'
 grow:Grow S S'
 nod:rows.Nodup
 mem:∀x,x∈rows↔M q.n x/\Inst q.r x
 row:w'.ownsRow w.heap.size 54 5 v rows.length (rows.flatMap (ansC nm cn D.consts))
 free:∀b,v.ownBlock=some b->own' b=none
 went:Went (fun _=>True) own w own' w'
theorem answers_c(hcut:CutOk){M:Int->R3->Prop}{lay:Int->Nat}{N C base tb:Nat}{m1 ru:Value}{nm0 cl0:List B8}{rules:List RuD}{w:World}{own:OwnF}{V:TV}{S:List TabD}(h:TIs w own base tb V ⟨.int .i32 0,m1,ru,nm0,cl0,rules⟩ (S.map TabD.q) S (sizeT S))(an:B8)(ats:List B8)(cn:Int)(han:an.length<=12)(hts:∀i,(padW ats i).length<=12)(hc:cl0.length<=10000)(hnm:nm0.length<=10000)
 (x:W3)(HX:Hid (x=atomW (nm0,cl0,[]) an ats))(q:A4)(HQ:Hid (q=codeA x.1 x.2.1 x.2.2 an ats))(hX:SCtx M lay N C ⟨.int .i32 1,m1,ru,x.1,x.2.1,rules⟩)(hI:Inv M N C S)(hq:QOk N C q)(hdec:∀y,M q.n y->y.Ground/\y.a.toNat<x.2.1.length/\y.b.toNat<x.2.1.length/\y.c.toNat<x.2.1.length):
 Calls prog 44 #[.pointer (some ⟨tb,0,none⟩),.agg #[.string (bs an),.int .i64 cn,.string (bs (padW ats 0)),.string (bs (padW ats 1)),.string (bs (padW ats 2))]] w fun e w'=>∃(v:Value) (own':OwnF) (S':List TabD) (rows:List R3),e=.returned v/\AnsPost M N C base tb ⟨.int .i32 0,m1,ru,x.1,x.2.1,rules⟩ w own S q (bs an) cn v w' own' S' rows:=by
 have hB0:=below_alloc w (.cells #[.string (bs an),.int .i64 cn,.string (bs (padW ats 0)),.string (bs (padW ats 1)),.string (bs (padW ats 2))] 54);have hQ0:=Blk.new w [.string (bs an),.int .i64 cn,.string (bs (padW ats 0)),.string (bs (padW ats 1)),.string (bs (padW ats 2))] 54;have h0:=h.below hB0
 have hnQ:own w.heap.size=none:=by
  cases e:own w.heap.size with
  |none=>rfl
  |some o=>exact absurd (h.ok.lt _ o e).2 (by omega)
 have hQt:w.heap.size≠tb:=fun e=>by rw[e,h.ot]at hnQ;cases hnQ
 have HL:=hid (lock_free muLib ⟨tb,0,none⟩ _ (h0.blk.cell 0) (h0.blk.frozen 0))
 go_enter_defers func44,ntmps44
 go_wp2_with (go_at_call 64;refine(HL.out).mono ?_;rintro e w2 ⟨rfl,hw2⟩;obtain⟨hT2,hO2⟩:=h0.setM (.int .i32 1);rw[<-hw2]at hT2 hO2;have hQ2:=hQ0.setOther ⟨tb,0,none⟩ (.int .i32 1) hQt;rw[<-hw2]at hQ2;clear hw2;have hlQ:=hQ2.lt;have hlt:=hT2.blk.lt)
 have hn2:own w2.heap.size=none:=by
  cases e:own w2.heap.size with
  |none=>rfl
  |some o=>exact absurd (hT2.ok.lt _ o e).2 (by omega)
 have hB3:Below w2.heap.size w2 (w2.alloc (.cells #[.map none,.slice none 0 0] 100)).drew:=(below_alloc w2 _).drew;have hV3:Blk (w2.alloc (.cells #[.map none,.slice none 0 0] 100)).drew w2.heap.size [.map none,.slice none 0 0] 100:=(Blk.new w2 _ _).drew;obtain⟨hT3,hv3⟩:=newVars (hT2.below hB3) hn2 hT2.ok.base hV3;have hQ3:=hQ2.below hB3;have HC:=hid (codeAtom_c hT3 hv3 an ats cn han hts (by simp only;omega) (by simp only;omega) (by simp));simp only at HC;rw[<-HX.out,<-HQ.out]at HC;have hHC:Calls prog 67 #[.pointer (some ⟨tb,2,none⟩),.agg #[.string (bs an),.int .i64 cn,.string (bs (padW ats 0)),.string (bs (padW ats 1)),.string (bs (padW ats 2))],.pointer (some ⟨w2.heap.size,0,none⟩)] (w2.alloc (.cells #[.map none,.slice none 0 0] 100)).drew fun e w'=>∃(own':OwnF) (V':TV) (mv' lv':Value),e=.returned (.agg #[.int .i64 q.n,.int .i64 q.r.a,.int .i64 q.r.b,.int .i64 q.r.c])/\TIs w' own' base tb V' ⟨.int .i32 1,m1,ru,x.1,x.2.1,rules⟩ (S.map TabD.q) S (sizeT S)/\VarIs w' own' base w2.heap.size x.2.2 mv' lv'/\Went ChW (ownNew own (5,0) w2.heap.size) (w2.alloc (.cells #[.map none,.slice none 0 0] 100)).drew own' w':=HC.out;have HC:=hid hHC;clear hHC;have hQw2:w.heap.size≠w2.heap.size:=by omega
 have hnQ3:ownNew own (5,0) w2.heap.size w.heap.size=none:=by unfold ownNew;rw[if_neg hQw2];exact hnQ
 have hWw:∀(own4:OwnF) (w4:World),Went ChW (ownNew own (5,0) w2.heap.size) (w2.alloc (.cells #[.map none,.slice none 0 0] 100)).drew own4 w4->Went (fun _=>True) own w own4 w4:=by intro own4 w4 hg;have e1:Went (fun _=>True) own w own w2:=(Went.below hB0).trans (Went.one hO2 trivial);exact e1.trans ((Went.outW hT2.ok hB3 (Nat.le_refl _) hg).mono (fun _ _=>trivial))
 have HF:=hid (finish_all (base:=base) (tb:=tb) hcut hX (lay q.n))
 go_cut [6] from 16 to 44 (fun y wx=>∃(t:TabD) (own5:OwnF) (S5:List TabD) (j:Nat),y=.pointer (some ⟨t.b,0,none⟩)/\Tb base tb ⟨.int .i32 1,m1,ru,x.1,x.2.1,rules⟩ wx own5 S5/\Inv M N C S5/\S5[j]? =some t/\t.q=⟨q.n,q.r.kind⟩/\t.fin=true/\Grow S S5/\Went (fun _=>True) own w own5 wx/\Blk wx w.heap.size [.string (bs an),.int .i64 cn,.string (bs (padW ats 0)),.string (bs (padW ats 1)),.string (bs (padW ats 2))] 54/\own5 w.heap.size=none)
 case first=>as_aux_lemma=>
  have y0:w2.cell? ⟨w.heap.size,0,none⟩=some (.string (bs an)):=hQ2.cell 0;have y1:w2.cell? ⟨w.heap.size,1,none⟩=some (.int .i64 cn):=hQ2.cell 1;have y2:w2.cell? ⟨w.heap.size,2,none⟩=some (.string (bs (padW ats 0))):=hQ2.cell 2;have y3:w2.cell? ⟨w.heap.size,3,none⟩=some (.string (bs (padW ats 1))):=hQ2.cell 3;have y4:w2.cell? ⟨w.heap.size,4,none⟩=some (.string (bs (padW ats 2))):=hQ2.cell 4;refine wp_region_noPanic ?_
  go_region_with (first|(go_at_call 67;refine(HC.out).mono ?_;rintro e w4 ⟨own4,V4,mv4,lv4,rfl,hT4,hv4,hW4⟩)|(go_at_call 66;refine(HF.out _ own4 S q ⟨V4,hT4⟩ hI hq (Nat.le_refl _)).mono ?_;rintro e w5 ⟨own5,S5,j,t,rfl,hp⟩))
  all_goals refine NoPanic.normal ?_
  all_goals go_wp2_with fail
  all_goals go_meet
  all_goals
   have hQ4:=hQ3.went hW4 hnQ3;have hn4:=hW4.none hQ3.lt hnQ3;exact⟨t,own5,S5,j,rfl,hp.tb,hp.inv,hp.ht,hp.hq,hp.fin,hp.grow,(hWw own4 w4 hW4).trans (hp.went.mono (fun _ _=>trivial)),hQ4.went hp.went hn4,hp.went.none hQ4.lt hn4⟩
 case rest=>
  clear HC HF hT3 hv3 hV3 hQ3 hB3 hT2 hO2 hWw hQ2;obtain⟨t,own5,S5,j,rfl,⟨V5,hT5⟩,hI5,ht5,hq5,hf5,hG5,hW5,hQ5,hn5⟩:=hcut;obtain⟨w5,hw5⟩:∃y:World,y=wc:=⟨wc,rfl⟩;subst hw5;obtain⟨ru5,tm,tl,hTab⟩:=hT5.tabs j t ht5;have hlb:=hTab.blk.lt;have HLen:=hid (lenR_c w5 base t.b 1 tm tl t.rows (hTab.blk.cell 2) hTab.rows);go_wp2_with (go_at_call 68;refine(HLen.out).mono ?_;rintro e w9 ⟨he,hw9⟩;subst w9;subst he);clear HLen;have hfr:=fin_rows hI5 (List.mem_of_getElem? ht5) hf5 hq5;have hrf:=rows_few hI5 (fun n x h=>holds_small hX.st hX.ro h) (List.mem_of_getElem? ht5);have hLr:=hX.li.r;obtain⟨i1,hi1,hy0,hy1,hy2⟩:=info_parts infoAtom;obtain⟨B,HBB⟩:∃B:Nat,Hid (1*C*C*C=B):=⟨_,rfl⟩;rw[HBB.out]at hrf hLr
  go_loopw [7,27] (fun av iv wr=>∃(k:Nat),k<=t.rows.length/\iv=.int .i64 (k:Nat)/\wr.ownsRow w5.heap.size 54 5 av k ((t.rows.take k).flatMap (ansC (bs an) cn x.2.1))/\Below w5.heap.size w5 wr) (fun _ iv _=>t.rows.length-(intOf iv).toNat)
  case atStart=>exact⟨0,Nat.zero_le _,rfl,World.ownsRow_nil _ _ _ _,Below.refl _ _⟩
  case round=>
   obtain⟨k,hk,rfl,hA,hB⟩:=hrel;by_cases hkl:k<t.rows.length
   ·have hd:decide ((k:Int)<(t.rows.length:Int))=true:=by simp;omega
    have hym:=(hfr.2 t.rows[k]).1 (List.getElem_mem hkl);have htk:=List.take_succ_eq_append_getElem hkl;have hdy:=hdec _ hym.1;have hat:=fun W=>atR_c W base t.b 1 tm tl t.rows;obtain⟨y,hye⟩:∃y,t.rows[k]=y:=⟨_,rfl⟩;rw[hye]at hdy htk;obtain⟨hg,l0,l1,l2⟩:=hdy;have g0:=hg y.a (.inl rfl);have g1:=hg y.b (.inr (.inl rfl));have g2:=hg y.c (.inr (.inr rfl));obtain⟨n0,e0⟩:∃n0:Nat,y.a=(n0:Nat):=⟨y.a.toNat,by omega⟩;obtain⟨n1,e1⟩:∃n1:Nat,y.b=(n1:Nat):=⟨y.b.toNat,by omega⟩;obtain⟨n2,e2⟩:∃n2:Nat,y.c=(n2:Nat):=⟨y.c.toNat,by omega⟩;have HAt:∀W,Below w5.heap.size w5 W->Calls prog 70 #[.pointer (some ⟨t.b,1,none⟩),.int .i64 k] W fun e w'=>e=.returned (.agg #[.int .i64 (n0:Nat),.int .i64 (n1:Nat),.int .i64 (n2:Nat)])/\Below W.heap.size W w':=by intro W hb;have:=hat W ((hTab.blk.below hb).cell 2) (hTab.rows.below hb) k hkl;rw[hye,e0,e1,e2]at this;exact this
    rw[e0]at l0;rw[e1]at l1;rw[e2]at l2
    have HAn:∀W,Below w5.heap.size w5 W->Calls prog 69 #[.pointer (some ⟨tb,2,none⟩),.agg #[.string (bs an),.int .i64 cn,.string (bs (padW ats 0)),.string (bs (padW ats 1)),.string (bs (padW ats 2))],.agg #[.int .i64 (n0:Nat),.int .i64 (n1:Nat),.int .i64 (n2:Nat)]] W fun e w'=>e=.returned (.agg #[.string (bs an),.int .i64 cn,.string (bs (x.2.1.getD n0 [])),.string (bs (x.2.1.getD n1 [])),.string (bs (x.2.1.getD n2 []))])/\Below W.heap.size W w':=by
     intro W hb;have hgd:∀n,n<x.2.1.length->x.2.1[n]? =some (x.2.1.getD n []):=fun n hn=>by rw[List.getD_eq_getElem?_getD,List.getElem?_eq_getElem hn];rfl
     exact answer_c (hT5.below hb) (bs an) _ _ _ cn n0 n1 n2 _ _ _ (hgd n0 (by simpa using l0)) (hgd n1 (by simpa using l1)) (hgd n2 (by simpa using l2))
    have hcell:ansC (bs an) cn x.2.1 y=[.string (bs an),.int .i64 cn,.string (bs (x.2.1.getD n0 [])),.string (bs (x.2.1.getD n1 [])),.string (bs (x.2.1.getD n2 []))]:=by unfold ansC;rw[e0,e1,e2];rfl
    have HK:=hid hcell;have HTK:=hid htk;clear hcell htk hat e0 e1 e2 g0 g1 g2 hye;obtain⟨ao,cap,rfl⟩:=own_form hA;have hQr:=hQ5.below hB;have z0:wr.cell? ⟨w.heap.size,0,none⟩=some (.string (bs an)):=hQr.cell 0;have z1:wr.cell? ⟨w.heap.size,1,none⟩=some (.int .i64 cn):=hQr.cell 1;have z2:wr.cell? ⟨w.heap.size,2,none⟩=some (.string (bs (padW ats 0))):=hQr.cell 2;have z3:wr.cell? ⟨w.heap.size,3,none⟩=some (.string (bs (padW ats 1))):=hQr.cell 3;have z4:wr.cell? ⟨w.heap.size,4,none⟩=some (.string (bs (padW ats 2))):=hQr.cell 4;have hsr:=hB.size;go_wp2_with fail;refine wp_region_noPanic ?_
    go_region_law (first|(refine step_append_at _ rfl (.tmp 30) (.tmp 41) 89 rfl w5.heap.size 54 i1 _ 5 72 underlying89 hi1 hy0 hy1 hy2 rfl (by decide) (.slice ao k cap) k _ (by simp[Act.eval]) hA7 ⟨w7.heap.size,0,none⟩ 1 1 [.string (bs an),.int .i64 cn,.string (bs (x.2.1.getD n0 [])),.string (bs (x.2.1.getD n1 [])),.string (bs (x.2.1.getD n2 []))] (by simp[Act.eval]) (by decide) rfl hnews hone (by unfold maxLen;omega) (by omega) hbb ?_;intro g cap2 w8 hL8 hg8 hwh)|(go_simp;go_wp2_with (first|(go_at_call 70;refine(HAt _ hB.drew).mono ?_;rintro e w6 ⟨rfl,hB6⟩;have hB6':Below w5.heap.size w5 w6:=hB.drew.trans (hB6.mono hsr);have hQ6:=hQ5.below hB6';have k0:w6.cell? ⟨w.heap.size,0,none⟩=some (.string (bs an)):=hQ6.cell 0;have k1:w6.cell? ⟨w.heap.size,1,none⟩=some (.int .i64 cn):=hQ6.cell 1;have k2:w6.cell? ⟨w.heap.size,2,none⟩=some (.string (bs (padW ats 0))):=hQ6.cell 2;have k3:w6.cell? ⟨w.heap.size,3,none⟩=some (.string (bs (padW ats 1))):=hQ6.cell 3;have k4:w6.cell? ⟨w.heap.size,4,none⟩=some (.string (bs (padW ats 2))):=hQ6.cell 4;have hs6:=hB6'.size)|(go_at_call 69;refine(HAn _ hB6').mono ?_;rintro e w7 ⟨rfl,hB7⟩;have hB7':Below w5.heap.size w5 w7:=hB6'.trans (hB7.mono hs6);have hs7:=hB7'.size;have hA7:=(own_below hA ((Below.refl wr.heap.size wr).drew.trans (hB6.trans (hB7.mono hB6.size)))).alloc (.cells #[.string (bs an),.int .i64 cn,.string (bs (x.2.1.getD n0 [])),.string (bs (x.2.1.getD n1 [])),.string (bs (x.2.1.getD n2 []))] 54);have hnews:=new_cells w7 [Value.string (bs an),.int .i64 cn,.string (bs (x.2.1.getD n0 [])),.string (bs (x.2.1.getD n1 [])),.string (bs (x.2.1.getD n2 []))] 54;have hone:∀u∈[Value.string (bs an),.int .i64 cn,.string (bs (x.2.1.getD n0 [])),.string (bs (x.2.1.getD n1 [])),.string (bs (x.2.1.getD n2 []))],u.oneCell'=true:=(by intro u hu;simp only[List.mem_cons,List.not_mem_nil,or_false]at hu;rcases hu with rfl|rfl|rfl|rfl|rfl<;>rfl);have hbb:w5.heap.size<=(w7.alloc (.cells #[.string (bs an),.int .i64 cn,.string (bs (x.2.1.getD n0 [])),.string (bs (x.2.1.getD n1 [])),.string (bs (x.2.1.getD n2 []))] 54)).heap.size:=(by simp;omega)))))
    all_goals refine NoPanic.normal ?_
    all_goals go_wp2_with fail
    all_goals
     have hT1:(t.rows.take (k+1)).flatMap (ansC (bs an) cn x.2.1)=(t.rows.take k).flatMap (ansC (bs an) cn x.2.1)++[.string (bs an),.int .i64 cn,.string (bs (x.2.1.getD n0 [])),.string (bs (x.2.1.getD n1 [])),.string (bs (x.2.1.getD n2 []))]:=by rw[HTK.out,List.flatMap_append,List.flatMap_cons,List.flatMap_nil,List.append_nil,HK.out]
     refine⟨⟨k+1,by omega,by simp,?_,?_⟩,?_⟩
     ·rw[hT1];exact hL8
     ·exact(((Only.of_below (S:=fun _=>False) hB7').alloc _).grown hg8 (fun q hq=>.inr (hA.lt q hq).1)).below (Nat.le_refl _) (fun _ h=>h.elim)
     ·simp[intOf];omega
   ·have hd:decide ((k:Int)<(t.rows.length:Int))=false:=by simp;omega
    rw[show k=t.rows.length by omega,List.take_length]at hA;clear HC HL;go_wp2_with fail;have hT7:=hT5.below hB;refine leaves_cons (P:=prog) (f:=65) (args:=#[.pointer (some ⟨tb,0,none⟩)]) (by simp) (by simp[go_sem]) ?_;refine(unlock_deferred muLib ⟨tb,0,none⟩ .returning _ (hT7.blk.cell 0) (hT7.blk.frozen 0)).mono ?_;rintro e u' w'' ⟨rfl,rfl,rfl⟩;obtain⟨hT8,hO8⟩:=hT7.setM (.int .i32 0);have hA8:=own_set hA ⟨tb,0,none⟩ (.int .i32 0) (own_ne hA hT7.blk (by decide));have hwl:=hW5.only.size;refine⟨_,results_tmp rfl _ _ _,_,own5,S5,t.rows,rfl,⟨⟨V5,hT8⟩,hI5,hG5,hfr.1,hfr.2,?_,?_,hW5.trans ((Went.below hB).trans (Went.one hO8 trivial))⟩⟩
    ·exact hA8.mono hwl
    ·intro b hb
     cases e:own5 b with
     |none=>rfl
     |some o=>exact absurd (hT5.ok.lt _ o e).2 (by have:=(hA.lt b hb).1;omega)
end
end Go.Proofs.YtpbfiffgcgnidaaGreat
