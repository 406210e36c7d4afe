import Derived.Test.YtpbfiffgcgnidaaGreatYal
import Derived.Test.YtpbfiffgcgnidaaGreatY23
import Derived.Test.YtpbfiffgcgnidaaGreatY25
namespace Go.Proofs.YtpbfiffgcgnidaaGreat
set_option maxRecDepth 100000
set_option maxHeartbeats 4000000
set_option linter.unusedSectionVars false
set_option linter.unusedSimpArgs false
open Go.Proofs.Tryz
section
attribute [local go_sem] drewN_alloc drewN_setCell
open Go.RowKit Go.WideMaps Go.Maps
variable [DecidableEq R3] [DecidableEq A4]
structure NeedPost(M:Int->R3->Prop)(lay:Int->Nat)(N C base tb:Nat)(D:TD)(sb l:Nat)(w:World)(own:OwnF)(S:List TabD)(nd:List Nat)(a:A4)(w':World)(own':OwnF)(S':List TabD)(nd':List Nat)(i:Nat)(t:TabD):Prop where
 sr:Sr M lay N C base tb D sb l w' own' S' nd'
 ht:S'[i]? =some t
 hq:t.q=⟨a.n,a.r.kind⟩
 fin:t.fin=true\/i∈nd'
 grow:Grow S S'
 size:sizeT S'=sizeT S
 sub:nd<+:nd'
 went:Went (Ch sb) own w own' w'
theorem Sr.below{M:Int->R3->Prop}{lay:Int->Nat}{N C base tb:Nat}{D:TD}{sb l:Nat}{w w':World}{own:OwnF}{S:List TabD}{nd:List Nat}(h:Sr M lay N C base tb D sb l w own S nd)(hb:Below w.heap.size w w'):Sr M lay N C base tb D sb l w' own S nd:=by obtain⟨V,hT⟩:=h.t;obtain⟨mv,lv,hs⟩:=h.s;exact⟨⟨V,hT.below hb⟩,⟨mv,lv,hs.below hb⟩,h.inv,h.nn,h.nd⟩
theorem TIs.listAt{w:World}{own:OwnF}{base tb:Nat}{V:TV}{D:TD}{qs:List A4}{S:List TabD}{sz:Nat}(h:TIs w own base tb V D qs S sz){i:Nat}{t:TabD}(ht:S[i]? =some t):∃g cap,V.li=.slice (some ⟨g,0,none⟩) S.length cap/\w.cell? ⟨g,i,none⟩=some (.pointer (some ⟨t.b,0,none⟩))/\g<w.heap.size/\w.cell? ⟨tb,9,none⟩=some (.slice (some ⟨g,0,none⟩) S.length cap):=by
 have hi:i<S.length:=(List.getElem?_eq_some_iff.1 ht).1;obtain⟨ao,cap,e⟩:=own_form h.list;have hl:=h.list;rw[e]at hl;have h9:w.cell? ⟨tb,9,none⟩=some V.li:=h.blk.cell 9;rw[e]at h9
 cases ao with
 |none=>
  rcases hl.2 with⟨_,h0⟩|⟨g,c,cur,h1,_⟩
  ·omega
  ·cases h1
 |some p=>
  rcases hl.2 with⟨h1,_⟩|⟨g,c,cur,h1,_⟩
  ·cases h1
  ·injection h1 with h1 h2 h3
   injection h1 with h1
   subst h1;refine⟨g,cap,e,?_,(hl.lt g rfl).2,h9⟩;rw[hl.cellAt i (by omega),List.getElem?_map,ht];rfl
theorem need_c(hcut:CutOk){M:Int->R3->Prop}{lay:Int->Nat}{N C base tb:Nat}{D:TD}(hX:SCtx M lay N C D){sb l:Nat}(w:World)(own:OwnF)(S:List TabD)(nd:List Nat)(h:Sr M lay N C base tb D sb l w own S nd)(a:A4)(ha:QOk N C a)(hl:lay a.n<=l):
 Calls prog 86 #[.pointer (some ⟨sb,0,none⟩),.agg #[.int .i64 a.n,.int .i64 a.r.a,.int .i64 a.r.b,.int .i64 a.r.c]] w fun e w'=>∃(own':OwnF) (S':List TabD) (nd':List Nat) (i:Nat) (t:TabD),e=.returned (.pointer (some ⟨t.b,0,none⟩))/\NeedPost M lay N C base tb D sb l w own S nd a w' own' S' nd' i t:=by
 have hB0:Below w.heap.size w (w.alloc (.cells #[.int .i64 a.n,.int .i64 a.r.a,.int .i64 a.r.b,.int .i64 a.r.c] 115)).drew:=(below_alloc w _).drew;obtain⟨mv,lv,hs⟩:=h.s;obtain⟨V,hT⟩:=h.t;have s0:w.cell? ⟨sb,0,none⟩=some (.pointer (some ⟨tb,0,none⟩)):=hs.blk.cell 0;have hsl:=hs.blk.lt;have HT:=hid (tableOf_c hcut hX _ own S ⟨V,hT.below hB0⟩ h.inv a ha);have hs0:=hs.below hB0;go_enter func86,ntmps86;go_wp2_with fail
 go_cut [5] from 7 to 33 (fun x wx=>∃(i:Nat) (own1:OwnF) (S1:List TabD) (t:TabD),x=.int .i64 (i:Nat)/\Tb base tb D wx own1 S1/\Inv M N C S1/\S1[i]? =some t/\t.q=⟨a.n,a.r.kind⟩/\Grow S S1/\sizeT S1=sizeT S/\Went ChF own w own1 wx)
 case first=>
  go_region_with (go_at_call 120;refine(HT.out).mono ?_;rintro e w1 ⟨own1,S1,i,t,rfl,g1,g2,g3,g4,g5,g6,g7⟩)
  all_goals go_wp2_with fail
  all_goals go_meet
  all_goals exact⟨i,own1,S1,t,rfl,g1,g2,g3,g4,g5,g6,(Went.below hB0).trans g7⟩
 case rest=>
  clear HT;obtain⟨i,own1,S1,t,rfl,⟨V1,hT1⟩,hI1,ht,hq,hG,hz,hW⟩:=hcut;obtain⟨w1,hw1⟩:∃x:World,x=wc:=⟨wc,rfl⟩;subst hw1;have hs1:=hs.went hW (not_ChF sb);obtain⟨g,cap,hli,gl,hgl,g9⟩:=hT1.listAt ht;obtain⟨ru,tm,tl,hTab⟩:=hT1.tabs i t ht;have hi:i<S1.length:=(List.getElem?_eq_some_iff.1 ht).1;have d0:w1.cell? ⟨sb,0,none⟩=some (.pointer (some ⟨tb,0,none⟩)):=hs1.blk.cell 0;have d3:w1.cell? ⟨t.b,3,none⟩=some (.bool t.fin):=hTab.blk.cell 3;have hlq:=questions_few hI1;have hLq:=hX.li.q;have htb:=hT1.blk.lt;have hsb:=hs1.blk.lt;have htt:=hTab.blk.lt;have hbw:=hT1.ok.base
  have hnl:nd.length<=S1.length:=by
   have:=h.nn.length_le_of_subset (l₂:=List.range S1.length) (by
    intro j hj;obtain⟨u,hu,_⟩:=h.nd j hj;have:=(List.getElem?_eq_some_iff.1 hu).1;have:=hG.len
    exact List.mem_range.2 (by omega))
   simpa using this
  have HA:=hid (addAnyI w1 base sb 1 _ 182 mv lv nd i (by exact hs1.blk) rfl rfl (by exact hs1.set) (by omega) (by omega) (by decide) (by exact hbw));have hnd1:∀j∈nd,∃u,S1[j]? =some u/\lay u.q.n<=l:=by intro j hj;obtain⟨u,hu,hul⟩:=h.nd j hj;obtain⟨u',hu',hle⟩:=hG.at' j u hu;exact⟨u',hu',by rw[hle.q];exact hul⟩
  obtain⟨fb,HF⟩:∃b:Bool,Hid (b=t.fin):=⟨_,rfl⟩;rw[<-HF.out]at d3
  cases fb with
  |true=>
   go_wp2_with fail
   go_ret
   exact⟨own1,S1,nd,i,t,rfl,⟨⟨⟨V1,hT1⟩,⟨mv,lv,hs1⟩,hI1,h.nn,hnd1⟩,ht,hq,.inl HF.out.symm,hG,hz,List.prefix_refl _,hW.mono (ChF.ch sb)⟩⟩
  |false=>
   go_wp2_with (go_at_call 121;refine(HA.out).mono ?_;rintro e w2 ⟨rfl,mv',lv',hB2,hS2,hF2⟩)
   go_ret
   obtain⟨hs2,hA2⟩:=hs1.add hT1.ok hB2 hS2 hF2;have hT2:=hT1.addS hA2;refine⟨_,S1,addG nd i,i,t,rfl,⟨⟨⟨V1,hT2⟩,⟨mv',lv',hs2⟩,hI1,addG_nodup h.nn i,?_⟩,ht,hq,.inr (addG_mem nd i),hG,hz,addG_pre nd i,(hW.mono (ChF.ch sb)).trans (Went.add hA2 (.inr (.inr rfl)) (.inr (.inr rfl)))⟩⟩;intro j hj;rcases addG_sub hj with hj|rfl
   ·exact hnd1 j hj
   ·exact⟨t,ht,by rw[hq];exact hl⟩
structure AddPost(M:Int->R3->Prop)(lay:Int->Nat)(N C base tb:Nat)(D:TD)(sb l:Nat)(w:World)(own:OwnF)(S:List TabD)(nd:List Nat)(g:Nat)(x:R3)(w':World)(own':OwnF)(S':List TabD):Prop where
 sr:Sr M lay N C base tb D sb l w' own' S' nd
 inn:∃t,S'[g]? =some t/\x∈t.rows
 grow:Grow S S'
 went:Went (Ch sb) own w own' w'
theorem set_same{S:List TabD}{g:Nat}{t:TabD}(h:S[g]? =some t):S.set g t=S:=by obtain⟨h1,h2⟩:=List.getElem?_eq_some_iff.1 h;rw[<-h2,List.set_getElem_self]
theorem add_c{M:Int->R3->Prop}{lay:Int->Nat}{N C base tb:Nat}{D:TD}(hX:SCtx M lay N C D){sb l:Nat}(w:World)(own:OwnF)(S:List TabD)(nd:List Nat)(h:Sr M lay N C base tb D sb l w own S nd)(g:Nat)(t:TabD)(ht:S[g]? =some t)(x:R3)(hM:M t.q.n x/\Inst t.q.r x):
 Calls prog 146 #[.pointer (some ⟨sb,0,none⟩),.agg #[.int .i64 x.a,.int .i64 x.b,.int .i64 x.c],.pointer (some ⟨t.b,0,none⟩)] w fun e w'=>∃(own':OwnF) (S':List TabD),e=.returned (.tuple #[])/\AddPost M lay N C base tb D sb l w own S nd g x w' own' S':=by
 have hB0:Below w.heap.size w (w.alloc (.cells #[.int .i64 x.a,.int .i64 x.b,.int .i64 x.c] 113)).drew:=(below_alloc w _).drew;obtain⟨mv,lv,hs⟩:=h.s;obtain⟨V,hT⟩:=h.t;have hs0:=hs.below hB0;have hT0:=hT.below hB0;obtain⟨ru,tm,tl,hTab⟩:=hT0.tabs g t ht;have hsm:=holds_small hX.st hX.ro hM.1;have hc:=hX.li.c;have x0:=hsm x.a (.inl rfl);have x1:=hsm x.b (.inr (.inl rfl));have x2:=hsm x.c (.inr (.inr rfl));have hxw:x.Wf:=⟨⟨by omega,by omega⟩,⟨by omega,by omega⟩,⟨by omega,by omega⟩⟩;have htm:t∈S:=List.mem_of_getElem? ht;have hrf:=rows_few h.inv (fun n x h=>holds_small hX.st hX.ro h) htm;have hlr:=hX.li.r;have HA:=hid (addAnyR _ base t.b 1 _ 152 tm tl t.rows x hTab.blk rfl rfl hTab.rows hxw (by omega) (by decide) hT0.ok.base);obtain⟨p,HP⟩:∃p:Nat,Hid (p=posG (addG t.rows x) x):=⟨_,rfl⟩;obtain⟨bb,HB⟩:∃b:Bool,Hid (b=decide (x∉t.rows)):=⟨_,rfl⟩;rw[<-HP.out,<-HB.out]at HA;have hsl:=hs.blk.lt;have htl:=hTab.blk.lt;simp at htl;go_enter func146,ntmps146;go_wp2_with fail
 go_cut [6,7] from 8 to 26 (fun y z wx=>y=.int .i64 (p:Nat)/\z=.bool bb/\∃tm' tl',Blk wx t.b [ru,tm',tl',.bool t.fin] 152/\SetIsR wx base tm' tl' (addG t.rows x)/\AddFrame (w.alloc (.cells #[.int .i64 x.a,.int .i64 x.b,.int .i64 x.c] 113)).drew wx t.b tm tl tm' tl')
 case first=>
  go_region_with (go_at_call 157;refine(HA.out).mono ?_;rintro e w1 ⟨rfl,tm',tl',hB1,hS1,hF1⟩)
  all_goals go_wp2_with fail
  all_goals go_meet
  all_goals exact⟨rfl,rfl,tm',tl',hB1,hS1,hF1⟩
 case rest=>
  clear HA;obtain⟨rfl,rfl,tm',tl',hB1,hS1,hF1⟩:=hcut;obtain⟨w1,hw1⟩:∃x:World,x=wc:=⟨wc,rfl⟩;subst hw1;obtain⟨hT1,hA1⟩:=hT0.addRow ht hTab hB1 hS1 hF1 hTab.apart;have hW1:Went (Ch sb) own w (ownAdd own (2,g) tm' tl') w1:=(Went.below hB0).trans (Went.add hA1 (.inr (.inl rfl)) (.inr (.inl rfl)));have hs1:=hs0.only hA1.same hA1.ext (fun q e e'=>by rw[e]at e';simp at e')
  cases bb with
  |false=>
   have hm:x∈t.rows:=by have:=HB.out;simpa using this.symm
   have e1:addG t.rows x=t.rows:=by unfold addG;rw[if_pos hm]
   rw[e1,set_same ht]at hT1;go_wp2_with fail
   go_end0
   exact⟨_,S,rfl,⟨⟨⟨V,hT1⟩,⟨mv,lv,hs1⟩,h.inv,h.nn,h.nd⟩,⟨t,ht,hm⟩,.refl S,hW1⟩⟩
  |true=>
   have hm:x∉t.rows:=by have:=HB.out;simpa using this.symm
   have e1:addG t.rows x=t.rows++[x]:=by unfold addG;rw[if_neg hm]
   rw[e1]at hT1;have hz:sizeT (S.set g ⟨t.q,t.b,t.rows++[x],t.fin⟩)=sizeT S+1:=by have:=sizeT_set (u:=⟨t.q,t.b,t.rows++[x],t.fin⟩) ht;simp at this;omega
   have hI1:=h.inv.add ht hm hM;have hsf:=size_few hI1 (fun n x h=>holds_small hX.st hX.ro h);have hls:=hX.li.s;have d0:w1.cell? ⟨sb,0,none⟩=some (.pointer (some ⟨tb,0,none⟩)):=hs1.blk.cell 0;have d10:w1.cell? ⟨tb,10,none⟩=some (.int .i64 (sizeT S:Nat)):=hT1.blk.cell 10;have fT:=hT1.blk.frozen;have htb:=hT1.blk.lt;have hsb:=hs1.blk.lt;generalize sizeT S=z at*;obtain⟨hT2,hO2⟩:=hT1.size (z+1);have hs2:=hs1.only hO2 (.refl 0 _) (fun q e e'=>by rw[e]at e';simp at e');go_wp2_with fail
   go_end0
   rw[show((z:Int)+1)=((z+1:Nat):Int) by omega];rw[<-hz,<-map_q_set (u:=⟨t.q,t.b,t.rows++[x],t.fin⟩) ht rfl]at hT2;rw[<-hz]at hs2 hO2⊢;refine⟨ownAdd own (2,g) tm' tl',S.set g ⟨t.q,t.b,t.rows++[x],t.fin⟩,rfl,⟨⟨⟨V,hT2⟩,⟨mv,lv,hs2⟩,hI1,h.nn,?_⟩,⟨⟨t.q,t.b,t.rows++[x],t.fin⟩,?_,by simp⟩,Grow.set ht ⟨rfl,rfl,List.prefix_append _ _,id⟩,hW1.trans (Went.one hO2 (.inl rfl))⟩⟩
   ·intro j hj;obtain⟨u,hu,hul⟩:=h.nd j hj;obtain⟨u',hu',hle⟩:=(Grow.set (u:=⟨t.q,t.b,t.rows++[x],t.fin⟩) ht ⟨rfl,rfl,List.prefix_append _ _,id⟩).at' j u hu;exact⟨u',hu',by rw[hle.q];exact hul⟩
   ·rw[List.getElem?_set_self (List.getElem?_eq_some_iff.1 ht).1]
structure FinPost(M:Int->R3->Prop)(N C base tb:Nat)(D:TD)(w:World)(own:OwnF)(S:List TabD)(a:A4)(w':World)(own':OwnF)(S':List TabD)(i:Nat)(t:TabD):Prop where
 tb:Tb base tb D w' own' S'
 inv:Inv M N C S'
 ht:S'[i]? =some t
 hq:t.q=⟨a.n,a.r.kind⟩
 fin:t.fin=true
 grow:Grow S S'
 went:Went ChF own w own' w'
def FinOk(M:Int->R3->Prop)(lay:Int->Nat)(N C base tb:Nat)(D:TD)(l:Nat):Prop:=∀(w:World) (own:OwnF) (S:List TabD) (a:A4),Tb base tb D w own S->Inv M N C S->QOk N C a->lay a.n<=l->
 Calls prog 66 #[.pointer (some ⟨tb,0,none⟩),.agg #[.int .i64 a.n,.int .i64 a.r.a,.int .i64 a.r.b,.int .i64 a.r.c]] w fun e w'=>∃(own':OwnF) (S':List TabD) (i:Nat) (t:TabD),e=.returned (.pointer (some ⟨t.b,0,none⟩))/\FinPost M N C base tb D w own S a w' own' S' i t
theorem holds_c{M:Int->R3->Prop}{lay:Int->Nat}{N C base tb:Nat}{D:TD}{l:Nat}(hF:FinOk M lay N C base tb D l)(w:World)(own:OwnF)(S:List TabD)(a:A4)(hT:Tb base tb D w own S)(hI:Inv M N C S)(ha:QOk N C a)(hl:lay a.n<=l)(hg:a.r.Ground):
 Calls prog 148 #[.pointer (some ⟨tb,0,none⟩),.agg #[.int .i64 a.n,.int .i64 a.r.a,.int .i64 a.r.b,.int .i64 a.r.c]] w fun e w'=>∃(b:Bool) (own':OwnF) (S':List TabD),e=.returned (.bool b)/\(b=true↔M a.n a.r)/\Tb base tb D w' own' S'/\Inv M N C S'/\Grow S S'/\Went ChF own w own' w':=by
 have hB0:=below_alloc w (.cells #[.int .i64 a.n,.int .i64 a.r.a,.int .i64 a.r.b,.int .i64 a.r.c] 115);obtain⟨V,hT⟩:=hT;go_enter func148,ntmps148;go_wp2_with (first|(go_at_call 66;refine(hF _ own S a ⟨V,hT.below hB0⟩ hI ha hl).mono ?_;rintro e w1 ⟨own1,S1,i,t,rfl,hp⟩;obtain⟨V1,hT1⟩:=hp.tb;obtain⟨ru,tm,tl,hTab⟩:=hT1.tabs i t hp.ht;have htb:=hTab.blk.lt)|(go_at_call 68;refine(lenR_c _ base t.b 1 tm tl t.rows (hTab.blk.cell 2) hTab.rows).mono ?_;rintro e w2 ⟨he,hw2⟩;subst w2;subst he))
 go_ret
 refine⟨decide (0<t.rows.length),own1,S1,?_,?_,hp.tb,hp.inv,hp.grow,(Went.below hB0).trans hp.went⟩
 ·rfl
 ·rw[decide_eq_true_iff];exact ground_rows hp.inv (List.mem_of_getElem? hp.ht) hp.fin hp.hq hg
structure JoinPost(M:Int->R3->Prop)(lay:Int->Nat)(N C base tb:Nat)(D:TD)(sb l:Nat)(w:World)(own:OwnF)(S:List TabD)(nd:List Nat)(k:Nat)(r:RuD)(p g:Nat)(w':World)(own':OwnF)(S':List TabD)(nd':List Nat):Prop where
 sr:Sr M lay N C base tb D sb l w' own' S' nd'
 grow:Grow S S'
 sub:nd<+:nd'
 went:Went (Ch sb) own w own' w'
 jd:sizeT S'=sizeT S->JD M S' nd' k r p g
def JoinOk(M:Int->R3->Prop)(lay:Int->Nat)(N C base tb:Nat)(D:TD)(sb l k:Nat):Prop:=∀(w:World) (own:OwnF) (S:List TabD) (nd:List Nat) (r:RuD) (p g:Nat) (t:TabD),p+k=r.cnt->Sr M lay N C base tb D sb l w own S nd->S[g]? =some t->RJ M lay N C t.q l r p->
 Calls prog 124 #[.pointer (some ⟨sb,0,none⟩),.agg (cellsU r).toArray,.int .i64 (p:Nat),.pointer (some ⟨t.b,0,none⟩)] w fun e w'=>∃(own':OwnF) (S':List TabD) (nd':List Nat),e=.returned (.tuple #[])/\JoinPost M lay N C base tb D sb l w own S nd k r p g w' own' S' nd'
def PosOk(M:Int->R3->Prop)(lay:Int->Nat)(N C base tb:Nat)(D:TD)(sb l k:Nat):Prop:=∀(w:World) (own:OwnF) (S:List TabD) (nd:List Nat) (r:RuD) (p g:Nat) (t:TabD),p+(k+1)=r.cnt->p<r.pos->Sr M lay N C base tb D sb l w own S nd->S[g]? =some t->RJ M lay N C t.q l r p->
 Calls prog 147 #[.pointer (some ⟨sb,0,none⟩),.agg (cellsU r).toArray,.int .i64 (p:Nat),.pointer (some ⟨t.b,0,none⟩)] w fun e w'=>∃(own':OwnF) (S':List TabD) (nd':List Nat),e=.returned (.tuple #[])/\JoinPost M lay N C base tb D sb l w own S nd (k+1) r p g w' own' S' nd'
theorem body_cell{w:World}{R:Nat}{r:RuD}{t:TypeId}(h:Blk w R (cellsU r) t)(p:Nat)(hp:p<4):w.cell? ⟨R,4+p*4,none⟩=some (.int .i64 (r.b p).n)/\w.cell? ⟨R,4+p*4+1,none⟩=some (.int .i64 (r.b p).r.a)/\w.cell? ⟨R,4+p*4+2,none⟩=some (.int .i64 (r.b p).r.b)/\w.cell? ⟨R,4+p*4+3,none⟩=some (.int .i64 (r.b p).r.c):=by
 match p,hp with
 |0,_=>exact⟨h.cell 4,h.cell 5,h.cell 6,h.cell 7⟩
 |1,_=>exact⟨h.cell 8,h.cell 9,h.cell 10,h.cell 11⟩
 |2,_=>exact⟨h.cell 12,h.cell 13,h.cell 14,h.cell 15⟩
 |3,_=>exact⟨h.cell 16,h.cell 17,h.cell 18,h.cell 19⟩
theorem join_c{M:Int->R3->Prop}{lay:Int->Nat}{N C base tb:Nat}{D:TD}(hX:SCtx M lay N C D){sb l:Nat}(hF:∀j,j<l->FinOk M lay N C base tb D j)(k:Nat)(hJ:∀j,j<k->JoinOk M lay N C base tb D sb l j)(hP:∀j,j<k->PosOk M lay N C base tb D sb l j):JoinOk M lay N C base tb D sb l k:=by
 intro w own S nd r p g t hk h ht hr;have hB0:=below_alloc w (.cells (cellsU r).toArray 118);have hR0:=Blk.new w (cellsU r) 118;have hcnt:=hr.wf.cnt;have hpos:=hr.wf.pos;obtain⟨V,hT⟩:=h.t
 have hRo:own w.heap.size=none:=by
  cases e:own w.heap.size with
  |none=>rfl
  |some o=>exact absurd (hT.ok.lt _ o e).2 (by omega)
 go_enter func124,ntmps124;go_upto_region 1 with fail
 generalize w.alloc (Obj.cells (cellsU r).toArray 118)=w0 at*;have h0:=h.below hB0;have hW0:Went (Ch sb) own w own w0:=Went.below hB0;have hlR:=hR0.lt;have z21:w0.cell? ⟨w.heap.size,21,none⟩=some (.int .i64 (r.cnt:Nat)):=hR0.cell 21;have z20:w0.cell? ⟨w.heap.size,20,none⟩=some (.int .i64 (r.pos:Nat)):=hR0.cell 20
 cases k with
 |zero=>
  have he:p=r.cnt:=by omega
  subst he;have z1:w0.cell? ⟨w.heap.size,1,none⟩=some (.int .i64 r.h.r.a):=hR0.cell 1;have z2:w0.cell? ⟨w.heap.size,2,none⟩=some (.int .i64 r.h.r.b):=hR0.cell 2;have z3:w0.cell? ⟨w.heap.size,3,none⟩=some (.int .i64 r.h.r.c):=hR0.cell 3;have HA:=hid (add_c hX w0 own S nd h0 g t ht r.h.r (hr.done rfl));go_wp2_with (go_at_call 146;refine(HA.out).mono ?_;rintro e w1 ⟨own1,S1,rfl,hp⟩)
  go_end0
  exact⟨own1,S1,nd,rfl,⟨hp.sr,hp.grow,List.prefix_refl _,hW0.trans hp.went,fun _=>hp.inn⟩⟩
 |succ k=>
  have hlt:p<r.cnt:=by omega
  have hb:((p:Int)==(r.cnt:Int))=false:=by simp;omega
  have hb':¬p=r.cnt:=by omega
  by_cases hpp:p<r.pos
  ·have HP:=hid (hP k (by omega) w0 own S nd r p g t hk hpp h0 ht hr);have hd:decide ((p:Int)<(r.pos:Int))=true:=by simp;omega
   go_wp2_with (first|(refine wpList_load_row rfl 118 (.tmp 5) rfl w.heap.size rfl 118 (cellsU r).toArray (0,0) _ hR0 underlying118 rfl infoU ?_)|(go_at_call 147;refine(HP.out).mono ?_;rintro e w1 ⟨own1,S1,nd1,rfl,hp⟩))
   go_end0
   exact⟨own1,S1,nd1,rfl,⟨hp.sr,hp.grow,hp.sub,hW0.trans hp.went,hp.jd⟩⟩
  ·have hd:decide ((p:Int)<(r.pos:Int))=false:=by simp;omega
   have hge:r.pos<=p:=by omega
   have hq:QOk N C (r.b p):=⟨hr.names p hlt,fun y hy=>hr.small.2 p y hy⟩;obtain⟨V0,hT0⟩:=h0.t;obtain⟨mv,lv,hs0⟩:=h0.s;have HH:=hid (holds_c (hF _ ((hr.lay p hlt).2 hge)) w0.drew own S (r.b p) ⟨V0,hT0.below ((Below.refl _ w0).drew)⟩ h0.inv hq (Nat.le_refl _) (hr.groundNeg hge hlt));obtain⟨b0,b1,b2,b3⟩:=body_cell hR0 p (by omega);have s0:w0.cell? ⟨sb,0,none⟩=some (.pointer (some ⟨tb,0,none⟩)):=hs0.blk.cell 0;have hsb:=hs0.blk.lt;go_wp2_with fail
   go_cut [36] from 27 to 42 (fun x wx=>∃(b:Bool) (own1:OwnF) (S1:List TabD),x=.bool (!b)/\(b=true↔M (r.b p).n (r.b p).r)/\Tb base tb D wx own1 S1/\Inv M N C S1/\Grow S S1/\Went ChF own w0 own1 wx)
   case first=>
    go_region_with (go_at_call 148;refine(HH.out).mono ?_;rintro e w1 ⟨b,own1,S1,rfl,g1,g2,g3,g4,g5⟩)
    all_goals go_wp2_with fail
    all_goals go_meet
    all_goals exact⟨b,own1,S1,rfl,g1,g2,g3,g4,(Went.below (Below.refl _ w0).drew).trans g5⟩
   case rest=>
    clear HH;obtain⟨b,own1,S1,rfl,hM,hT1,hI1,hG1,hW1⟩:=hcut;obtain⟨w1,hw1⟩:∃x:World,x=wc:=⟨wc,rfl⟩;subst hw1;have hR1:=hR0.went hW1 hRo
    have h1:Sr M lay N C base tb D sb l w1 own1 S1 nd:=⟨hT1,⟨mv,lv,hs0.went hW1 (not_ChF sb)⟩,hI1,h0.nn,fun j hj=>by
     obtain⟨u,hu,hul⟩:=h0.nd j hj;obtain⟨u',hu',hle⟩:=hG1.at' j u hu
     exact⟨u',hu',by rw[hle.q];exact hul⟩⟩
    have hW1':=hW0.trans (hW1.mono (ChF.ch sb));obtain⟨t1,ht1,hle⟩:=hG1.at' g t ht
    cases b with
    |true=>
     go_wp2_with fail
     go_end0
     refine⟨rfl,own1,S1,nd,⟨h1,hG1,List.prefix_refl _,hW1',fun _=>?_⟩⟩;unfold JD;rw[if_neg hpp];exact .inl (by simpa using hM)
    |false=>
     have hMn:¬M (r.b p).n (r.b p).r:=fun e=>by simpa using hM.2 e
     have hr1:RJ M lay N C t1.q l r (p+1):=by rw[hle.q];exact hr.neg hge hlt hMn
     have HJ:=hid (hJ k (by omega) w1 own1 S1 nd r (p+1) g t1 (by omega) h1 ht1 hr1);rw[hle.b]at HJ;go_wp2_with (first|(refine wpList_load_row rfl 118 (.tmp 5) rfl w.heap.size rfl 118 (cellsU r).toArray (0,0) _ hR1 underlying118 rfl infoU ?_)|(go_at_call 124;refine(HJ.out).mono ?_;rintro e w2 ⟨own2,S2,nd2,rfl,hp⟩))
     go_end0
     refine⟨own2,S2,nd2,rfl,⟨hp.sr,hG1.trans hp.grow,hp.sub,hW1'.trans hp.went,fun e=>?_⟩⟩;unfold JD;rw[if_neg hpp];have e1:=hG1.size;have e2:=hp.grow.size;exact .inr (hp.jd (by omega))
end
end Go.Proofs.YtpbfiffgcgnidaaGreat
