import Derived.Test.YtpbfiffgcgnidaaGreatYal
import Derived.Test.YtpbfiffgcgnidaaGreatY15
import Derived.Test.YtpbfiffgcgnidaaGreatY16
import Derived.Test.YtpbfiffgcgnidaaGreatY17
import Derived.Test.YtpbfiffgcgnidaaGreatY18
namespace Go.Proofs.YtpbfiffgcgnidaaGreat
set_option maxRecDepth 100000
set_option maxHeartbeats 4000000
set_option linter.unusedSectionVars false
set_option linter.unusedSimpArgs false
open Go.Proofs.Tryz
section
open Go.RowKit Go.WideMaps Go.Maps
variable [DecidableEq R3] [DecidableEq A4]
abbrev Owner:=Nat×Nat
abbrev OwnF:=Nat->Option Owner
def Owns(own:OwnF)(o:Owner)(v:Value):Prop:=∀q,(mapBlock v=some q\/v.ownBlock=some q)->own q=some o
structure OwnOk(own:OwnF)(base:Nat)(w:World):Prop where
 lt:∀q o,own q=some o->base<=q/\q<w.heap.size
 base:base<=w.heap.size
 se:∀q s,own q=some (3,s)->s<w.heap.size
def Ch(sb:Nat)(o:Owner):Prop:=o.1=0\/o.1=2\/o=(3,sb)
def ChF(o:Owner):Prop:=o.1=0\/o.1=2
def Sch(own:OwnF)(X:Owner->Prop)(q:Nat):Prop:=∃o,own q=some o/\X o
structure OwnExt(n:Nat)(own own':OwnF):Prop where
 keep:∀q o,own q=some o->own' q=some o
 new:∀q o,own' q=some o->own q=some o\/n<=q
theorem OwnExt.refl(n:Nat)(own:OwnF):OwnExt n own own:=⟨fun _ _ h=>h,fun _ _ h=>.inl h⟩
theorem OwnExt.trans{n m:Nat}{a b c:OwnF}(h:OwnExt n a b)(g:OwnExt m b c)(hm:n<=m):OwnExt n a c:=
 ⟨fun q o e=>g.keep q o (h.keep q o e),fun q o e=>by
   rcases g.new q o e with e|e
   ·exact h.new q o e
   ·exact .inr (Nat.le_trans hm e)⟩
structure Went(X:Owner->Prop)(own:OwnF)(w:World)(own':OwnF)(w':World):Prop where
 only:Only (Sch own X) w w'
 ext:OwnExt w.heap.size own own'
theorem Went.refl(X:Owner->Prop)(own:OwnF)(w:World):Went X own w own w:=⟨Only.of_below (Below.refl _ _),.refl _ _⟩
theorem Went.below{X:Owner->Prop}{own:OwnF}{w w':World}(h:Below w.heap.size w w'):Went X own w own w':=⟨Only.of_below h,.refl _ _⟩
theorem Went.trans{X:Owner->Prop}{a b c:OwnF}{w w1 w2:World}(h:Went X a w b w1)(g:Went X b w1 c w2):Went X a w c w2:=
 ⟨h.only.trans g.only (fun k hk ⟨o,ho,hc⟩=>by
   rcases h.ext.new k o ho with e|e
   ·exact⟨o,e,hc⟩
   ·omega),h.ext.trans g.ext h.only.size⟩
theorem Went.mono{X Y:Owner->Prop}{a b:OwnF}{w w1:World}(h:Went X a w b w1)(hxy:∀o,X o->Y o):Went Y a w b w1:=⟨h.only.mono (fun _ ⟨o,e,c⟩=>⟨o,e,hxy o c⟩),h.ext⟩
theorem ChF.ch(sb:Nat)(o:Owner)(h:ChF o):Ch sb o:=by
 rcases h with h|h
 ·exact .inl h
 ·exact .inr (.inl h)
theorem Went.thenBelow{X:Owner->Prop}{a b:OwnF}{w w1 w2:World}(h:Went X a w b w1)(g:Below w1.heap.size w1 w2):Went X a w b w2:=h.trans (Went.below g)
theorem Owns.ext{n:Nat}{own own':OwnF}{o:Owner}{v:Value}(h:Owns own o v)(he:OwnExt n own own'):Owns own' o v:=fun q hq=>he.keep q o (h q hq)
theorem Owns.nil_map(own:OwnF)(o:Owner):Owns own o (.map none):=by intro q hq;simp[mapBlock,Value.ownBlock]at hq
theorem Owns.nil_slice(own:OwnF)(o:Owner):Owns own o (.slice none 0 0):=by intro q hq;simp[mapBlock,Value.ownBlock]at hq
theorem OwnOk.below{own:OwnF}{base:Nat}{w w':World}(h:OwnOk own base w)(hs:w.heap.size<=w'.heap.size):OwnOk own base w':=⟨fun q o e=>⟨(h.lt q o e).1,Nat.lt_of_lt_of_le (h.lt q o e).2 hs⟩,Nat.le_trans h.base hs,fun q s e=>Nat.lt_of_lt_of_le (h.se q s e) hs⟩
def ownAdd(own:OwnF)(o:Owner)(mv lv:Value):OwnF:=fun q=>if mapBlock mv=some q\/lv.ownBlock=some q then some o else own q
theorem ownAdd_ext{own:OwnF}{o:Owner}{n:Nat}{mv lv:Value}(hl:∀q o,own q=some o->q<n)(h:∀q,(mapBlock mv=some q\/lv.ownBlock=some q)->own q=some o\/n<=q):OwnExt n own (ownAdd own o mv lv):=by
 refine⟨fun q o' e=>?_,fun q o' e=>?_⟩
 ·unfold ownAdd
  split
  ·rename_i hq;rcases h q hq with h|h
   ·rw[<-h,e]
   ·have:=hl q o' e;omega
  ·exact e
 ·unfold ownAdd at e
  split at e
  ·rename_i hq;rcases h q hq with h|h
   ·left
    rw[<-e,h]
   ·exact .inr h
  ·exact .inl e
theorem ownAdd_own{own:OwnF}{o:Owner}{mv lv:Value}(q:Nat)(h:mapBlock mv=some q\/lv.ownBlock=some q):ownAdd own o mv lv q=some o:=by unfold ownAdd;rw[if_pos h]
def ownNew(own:OwnF)(o:Owner)(b:Nat):OwnF:=fun q=>if q=b then some o else own q
theorem ownNew_own(own:OwnF)(o:Owner)(b:Nat):ownNew own o b b=some o:=by simp[ownNew]
structure TD where
 m0:Value
 m1:Value
 ru:Value
 names:List B8
 consts:List B8
 rules:List RuD
structure TV where
 nm:Value
 nl:Value
 cm:Value
 cl:Value
 qm:Value
 ql:Value
 li:Value
structure TabIs(w:World)(own:OwnF)(base:Nat)(rules:List RuD)(i:Nat)(t:TabD)(ru mv lv:Value):Prop where
 blk:Blk w t.b [ru,mv,lv,.bool t.fin] 152
 rules:w.ownsRow base 118 22 ru (cutG rules t.q).length ((cutG rules t.q).flatMap cellsU)
 rows:SetIsR w base mv lv t.rows
 ob:own t.b=some (2,i)
 oru:Owns own (4,i) ru
 omv:Owns own (2,i) mv
 olv:Owns own (2,i) lv
def tptr(t:TabD):Value:=.pointer (some ⟨t.b,0,none⟩)
structure TIs(w:World)(own:OwnF)(base tb:Nat)(V:TV)(D:TD)(qs:List A4)(S:List TabD)(sz:Nat):Prop where
 ok:OwnOk own base w
 blk:Blk w tb [D.m0,D.m1,V.nm,V.nl,V.cm,V.cl,D.ru,V.qm,V.ql,V.li,.int .i64 (sz:Nat)] 110
 names:SetIsS w base V.nm V.nl D.names
 consts:SetIsS w base V.cm V.cl D.consts
 rules:w.ownsRow base 118 22 D.ru D.rules.length (D.rules.flatMap cellsU)
 qs:SetIsA w base V.qm V.ql qs
 list:w.ownsRow base 144 1 V.li S.length (S.map tptr)
 ot:own tb=some (0,0)
 oqm:Owns own (0,0) V.qm
 oql:Owns own (0,0) V.ql
 oli:Owns own (0,0) V.li
 onm:Owns own (1,0) V.nm
 onl:Owns own (1,0) V.nl
 ocm:Owns own (1,1) V.cm
 ocl:Owns own (1,1) V.cl
 oru:Owns own (1,2) D.ru
 tabs:∀(i:Nat) (t:TabD),S[i]? =some t->∃ru mv lv,TabIs w own base D.rules i t ru mv lv
structure SeIs(w:World)(own:OwnF)(base tb sb:Nat)(nd:List Nat)(mv lv:Value):Prop where
 blk:Blk w sb [.pointer (some ⟨tb,0,none⟩),mv,lv] 182
 set:SetIsI w base mv lv nd
 ob:own sb=some (3,sb)
 omv:Owns own (3,sb) mv
 olv:Owns own (3,sb) lv
section
variable {w w':World} {own own':OwnF} {base tb:Nat} {P:Nat->Prop}
theorem TabIs.only{rules:List RuD}{i n:Nat}{t:TabD}{ru mv lv:Value}(h:TabIs w own base rules i t ru mv lv)(ho:Only P w w')(he:OwnExt n own own')(hP:∀q k,k=2\/k=4->own q=some (k,i)->¬P q):TabIs w' own' base rules i t ru mv lv:=
 ⟨h.blk.only ho (hP _ 2 (.inl rfl) h.ob),own_only h.rules ho (fun q hq=>hP q 4 (.inr rfl) (h.oru q (.inr hq))),h.rows.only ho (fun q hq=>hP q 2 (.inl rfl) (h.olv q (.inr hq))) (fun q hq=>hP q 2 (.inl rfl) (h.omv q (.inl hq))),he.keep _ _ h.ob,h.oru.ext he,h.omv.ext he,h.olv.ext he⟩
theorem SeIs.only{sb n:Nat}{nd:List Nat}{mv lv:Value}(h:SeIs w own base tb sb nd mv lv)(ho:Only P w w')(he:OwnExt n own own')(hP:∀q,own q=some (3,sb)->¬P q):SeIs w' own' base tb sb nd mv lv:=
 ⟨h.blk.only ho (hP _ h.ob),h.set.only ho (fun q hq=>hP q (h.olv q (.inr hq))) (fun q hq=>hP q (h.omv q (.inl hq))),he.keep _ _ h.ob,h.omv.ext he,h.olv.ext he⟩
theorem TIs.only{V:TV}{D:TD}{qs:List A4}{S:List TabD}{sz n:Nat}(h:TIs w own base tb V D qs S sz)(ho:Only P w w')(he:OwnExt n own own')(hk:OwnOk own' base w')(hP:∀q o,own q=some o->o.1≠3->o.1≠5->¬P q):TIs w' own' base tb V D qs S sz:=by have z:=fun q (e:own q=some (0,0))=>hP q _ e (by simp) (by simp);have f:=fun k q (e:own q=some (1,k))=>hP q _ e (by simp) (by simp);refine⟨hk,h.blk.only ho (z _ h.ot),h.names.only ho (fun q hq=>f 0 q (h.onl q (.inr hq))) (fun q hq=>f 0 q (h.onm q (.inl hq))),h.consts.only ho (fun q hq=>f 1 q (h.ocl q (.inr hq))) (fun q hq=>f 1 q (h.ocm q (.inl hq))),own_only h.rules ho (fun q hq=>f 2 q (h.oru q (.inr hq))),h.qs.only ho (fun q hq=>z q (h.oql q (.inr hq))) (fun q hq=>z q (h.oqm q (.inl hq))),own_only h.list ho (fun q hq=>z q (h.oli q (.inr hq))),he.keep _ _ h.ot,h.oqm.ext he,h.oql.ext he,h.oli.ext he,h.onm.ext he,h.onl.ext he,h.ocm.ext he,h.ocl.ext he,h.oru.ext he,?_⟩;intro i t ht;obtain⟨ru,mv,lv,hT⟩:=h.tabs i t ht;exact⟨ru,mv,lv,hT.only ho he (fun q k hk e=>hP q _ e (by rcases hk with rfl|rfl<;>simp) (by rcases hk with rfl|rfl<;>simp))⟩
theorem TIs.below{V:TV}{D:TD}{qs:List A4}{S:List TabD}{sz:Nat}(h:TIs w own base tb V D qs S sz)(hb:Below w.heap.size w w'):TIs w' own base tb V D qs S sz:=
 h.only (P:=fun _=>False) (Only.of_below hb) (.refl 0 own) (h.ok.below hb.size) (fun _ _ _ _ _ e=>e)
theorem SeIs.below{sb:Nat}{nd:List Nat}{mv lv:Value}(h:SeIs w own base tb sb nd mv lv)(hb:Below w.heap.size w w'):SeIs w' own base tb sb nd mv lv:=
 h.only (P:=fun _=>False) (Only.of_below hb) (.refl 0 own) (fun _ _ e=>e)
theorem TabIs.below{rules:List RuD}{i:Nat}{t:TabD}{ru mv lv:Value}(h:TabIs w own base rules i t ru mv lv)(hb:Below w.heap.size w w'):TabIs w' own base rules i t ru mv lv:=
 h.only (P:=fun _=>False) (Only.of_below hb) (.refl 0 own) (fun _ _ _ _ e=>e)
end
theorem Blk.went{X:Owner->Prop}{own own':OwnF}{w w':World}{b:Nat}{cs:List Value}{t:TypeId}(h:Blk w b cs t)(hw:Went X own w own' w')(hn:own b=none):Blk w' b cs t:=
 h.only hw.only (fun⟨o,e,_⟩=>by rw[hn]at e;cases e)
theorem Went.none{X:Owner->Prop}{own own':OwnF}{w w':World}(hw:Went X own w own' w'){b:Nat}(hb:b<w.heap.size)(hn:own b=none):own' b=none:=by
 cases e:own' b with
 |none=>rfl
 |some o=>
  rcases hw.ext.new b o e with e'|e'
  ·rw[hn]at e';cases e'
  ·omega
theorem SeIs.went{X:Owner->Prop}{w w':World}{own own':OwnF}{base tb sb:Nat}{nd:List Nat}{mv lv:Value}(h:SeIs w own base tb sb nd mv lv)(hw:Went X own w own' w')(hne:¬X (3,sb)):SeIs w' own' base tb sb nd mv lv:=
 h.only hw.only hw.ext (fun q e hS=>by
  obtain⟨o,ho,hc⟩:=hS;rw[e]at ho
  injection ho with ho
  subst ho
  exact hne hc)
theorem not_ChF(sb:Nat):¬ChF (3,sb):=by rintro(h|h)<;>simp at h
end
section
open Go.RowKit Go.WideMaps Go.Maps
variable [DecidableEq R3] [DecidableEq A4]
theorem shape_of{w:World}{base:Nat}{e:TypeId}{size n:Nat}{lv:Value}{xs:List Value}(h:w.ownsRow base e size lv n xs):mapBlock lv=none:=by obtain⟨ao,cap,rfl⟩:=own_form h;rfl
theorem SetIsR.shape{w:World}{base:Nat}{mv lv:Value}{xs:List R3}(h:SetIsR w base mv lv xs):mv.ownBlock=none/\mapBlock lv=none:=by
 refine⟨?_,shape_of h.1⟩;rcases h.2.2 with⟨rfl,_⟩|⟨r,D,rfl,_⟩<;>rfl
theorem SetIsA.shape{w:World}{base:Nat}{mv lv:Value}{xs:List A4}(h:SetIsA w base mv lv xs):mv.ownBlock=none/\mapBlock lv=none:=by
 refine⟨?_,shape_of h.1⟩;rcases h.2.2 with⟨rfl,_⟩|⟨r,D,rfl,_⟩<;>rfl
theorem SetIsI.shape{w:World}{base:Nat}{mv lv:Value}{xs:List Nat}(h:SetIsI w base mv lv xs):mv.ownBlock=none/\mapBlock lv=none:=by
 refine⟨?_,shape_of h.1⟩;rcases h.2.2 with⟨rfl,_⟩|⟨r,D,rfl,_⟩<;>rfl
theorem SetIsS.shape{w:World}{base:Nat}{mv lv:Value}{xs:List B8}(h:SetIsS w base mv lv xs):mv.ownBlock=none/\mapBlock lv=none:=by
 refine⟨?_,shape_of h.1⟩;rcases h.2.2 with⟨rfl,_⟩|⟨r,D,rfl,_⟩<;>rfl
structure AddOwn(own:OwnF)(base:Nat)(w w':World)(ob o:Owner)(mv' lv':Value):Prop where
 ext:OwnExt w.heap.size own (ownAdd own o mv' lv')
 ok:OwnOk (ownAdd own o mv' lv') base w'
 om:Owns (ownAdd own o mv' lv') o mv'
 ol:Owns (ownAdd own o mv' lv') o lv'
 only:Only (fun q=>own q=some ob\/own q=some o) w w'
theorem frame_own{own:OwnF}{base:Nat}{w w':World}{b:Nat}{mv lv mv' lv':Value}{ob o:Owner}(hk:OwnOk own base w)(hf:AddFrame w w' b mv lv mv' lv')(hb:own b=some ob)(hbo:∀s,o=(3,s)->s<w.heap.size)(hm:Owns own o mv)(hl:Owns own o lv)(hs:mv'.ownBlock=none/\mapBlock lv'=none)(hlt:(∀q,lv'.ownBlock=some q->base<=q/\q<w'.heap.size)/\∀q,mapBlock mv'=some q->base<=q/\q<w'.heap.size):AddOwn own base w w' ob o mv' lv':=by
 have key:∀q,(mapBlock mv'=some q\/lv'.ownBlock=some q)->own q=some o\/w.heap.size<=q:=by
  rintro q (h|h)
  ·rcases hf.map with e|e
   ·exact .inl (hm q (.inl (e▸h)))
   ·exact .inr (e q h)
  ·rcases hf.row with e|e
   ·exact .inl (hl q (.inr (e▸h)))
   ·exact .inr (e q h)
 refine⟨ownAdd_ext (fun q o e=>(hk.lt q o e).2) key,⟨?_,Nat.le_trans hk.base hf.only.size,?_⟩,?_,?_,hf.only.mono ?_⟩
 ·intro q o' e;unfold ownAdd at e
  split at e
  ·rename_i h;rcases h with h|h
   ·exact hlt.2 q h
   ·exact hlt.1 q h
  ·exact⟨(hk.lt q o' e).1,Nat.lt_of_lt_of_le (hk.lt q o' e).2 hf.only.size⟩
 ·intro q s e;unfold ownAdd at e
  split at e
  ·injection e with e
   exact Nat.lt_of_lt_of_le (hbo s e) hf.only.size
  ·exact Nat.lt_of_lt_of_le (hk.se q s e) hf.only.size
 ·rintro q (h|h)
  ·exact ownAdd_own q (.inl h)
  ·rw[hs.1]at h;cases h
 ·rintro q (h|h)
  ·rw[hs.2]at h;cases h
  ·exact ownAdd_own q (.inr h)
 ·rintro q (rfl|h|h)
  ·exact .inl hb
  ·exact .inr (hm q (.inl h))
  ·exact .inr (hl q (.inr h))
theorem AddOwn.same{own:OwnF}{base:Nat}{w w':World}{o:Owner}{mv' lv':Value}(h:AddOwn own base w w' o o mv' lv'):Only (fun q=>own q=some o) w w':=h.only.mono (fun _ e=>e.elim id id)
section
variable {w w':World} {own own':OwnF} {base tb n:Nat} {V:TV} {D:TD} {qs:List A4} {S:List TabD} {sz:Nat}
theorem TIs.tab(h:TIs w own base tb V D qs S sz){g:Nat}{t u:TabD}(ht:S[g]? =some t)(ho:Only (fun q=>own q=some (2,g)) w w')(he:OwnExt n own own')(hk:OwnOk own' base w'){ru mv lv:Value}(hT:TabIs w' own' base D.rules g u ru mv lv)(hb:u.b=t.b):TIs w' own' base tb V D qs (S.set g u) sz:=by
 have z:=fun q (e:own q=some (0,0)) (e':own q=some (2,g))=>(by rw[e]at e';simp at e':False);have f:=fun k q (e:own q=some (1,k)) (e':own q=some (2,g))=>(by rw[e]at e';simp at e':False);have hg:g<S.length:=(List.getElem?_eq_some_iff.1 ht).1
 have hm:(S.set g u).map tptr=S.map tptr:=by
  rw[List.map_set];apply List.ext_getElem?;intro j;rw[List.getElem?_set]
  split
  ·rename_i e;subst e;rw[List.getElem?_map,ht,if_pos (by simpa using hg)];simp[tptr,hb]
  ·rfl
 refine⟨hk,h.blk.only ho (z _ h.ot),h.names.only ho (fun q hq=>f 0 q (h.onl q (.inr hq))) (fun q hq=>f 0 q (h.onm q (.inl hq))),h.consts.only ho (fun q hq=>f 1 q (h.ocl q (.inr hq))) (fun q hq=>f 1 q (h.ocm q (.inl hq))),own_only h.rules ho (fun q hq=>f 2 q (h.oru q (.inr hq))),h.qs.only ho (fun q hq=>z q (h.oql q (.inr hq))) (fun q hq=>z q (h.oqm q (.inl hq))),?_,he.keep _ _ h.ot,h.oqm.ext he,h.oql.ext he,h.oli.ext he,h.onm.ext he,h.onl.ext he,h.ocm.ext he,h.ocl.ext he,h.oru.ext he,?_⟩
 ·rw[hm,List.length_set];exact own_only h.list ho (fun q hq=>z q (h.oli q (.inr hq)))
 ·intro i x hx;by_cases e:g=i
  ·subst e;rw[List.getElem?_set_self hg]at hx
   injection hx with hx
   subst hx;exact⟨ru,mv,lv,hT⟩
  ·rw[List.getElem?_set_ne e]at hx;obtain⟨ru,mv,lv,hX⟩:=h.tabs i x hx;exact⟨ru,mv,lv,hX.only ho he (fun q k hk e1 e2=>by rw[e1]at e2;rcases hk with rfl|rfl<;>simp at e2;exact e e2.symm)⟩
theorem TIs.addRow(h:TIs w own base tb V D qs S sz){g:Nat}{t:TabD}(ht:S[g]? =some t){ru mv lv mv' lv':Value}(hT:TabIs w own base D.rules g t ru mv lv){rows':List R3}(hB:Blk w' t.b [ru,mv',lv',.bool t.fin] 152)(hS:SetIsR w' base mv' lv' rows')(hf:AddFrame w w' t.b mv lv mv' lv')(hra:∀q,ru.ownBlock=some q->q≠t.b/\mapBlock mv≠some q/\lv.ownBlock≠some q):
 TIs w' (ownAdd own (2,g) mv' lv') base tb V D qs (S.set g ⟨t.q,t.b,rows',t.fin⟩) sz/\AddOwn own base w w' (2,g) (2,g) mv' lv':=by
 have ha:=frame_own h.ok hf hT.ob (fun s e=>by simp at e) hT.omv hT.olv hS.shape hS.lt;refine⟨h.tab ht ha.same ha.ext ha.ok (ru:=ru) (mv:=mv') (lv:=lv') ⟨hB,?_,hS,ha.ext.keep _ _ hT.ob,hT.oru.ext ha.ext,ha.om,ha.ol⟩ rfl,ha⟩;refine own_only hT.rules hf.only (fun q hq=>?_);obtain⟨a,b,c⟩:=hra q hq;rintro(e|e|e)
 ·exact a e
 ·exact b e
 ·exact c e
theorem TIs.size(h:TIs w own base tb V D qs S sz)(k:Nat):TIs (w.setCell ⟨tb,10,none⟩ (.int .i64 (k:Nat))) own base tb V D qs S k/\Only (fun q=>own q=some (0,0)) w (w.setCell ⟨tb,10,none⟩ (.int .i64 (k:Nat))):=by
 have ho:Only (fun q=>q=tb) w (w.setCell ⟨tb,10,none⟩ (.int .i64 (k:Nat))):=(Only.of_below (S:=fun q=>q=tb) (Below.refl _ _)).setCell (p:=⟨tb,10,none⟩) (.inl rfl) _;have r:=fun {e:TypeId} {size n:Nat} {v:Value} {xs:List Value} (hx:w.ownsRow base e size v n xs) (ht:110≠e)=>own_only hx ho (fun q hq e=>own_ne hx h.blk ht (e▸hq));have m:=fun {k:TypeId} {R:Value->Option (DataW Unit×List MemPlace)} {r n:Nat} {D:DataW Unit} (hx:w.ownsMap prog k R r n D)=>map_ne hx h.blk;have hb:=h.blk.setCell 10 (.int .i64 (k:Nat))
 have hsS:∀{mv lv:Value} {xs:List B8},SetIsS w base mv lv xs->SetIsS (w.setCell ⟨tb,10,none⟩ (.int .i64 (k:Nat))) base mv lv xs:=by
  intro mv lv xs hx;refine hx.only ho (fun q hq e=>own_ne hx.1 h.blk (by decide) (e▸hq)) (fun q hq e=>?_);rcases hx.2.2 with⟨rfl,_⟩|⟨r,D,rfl,_,hw,_⟩
  ·simp[mapBlock]at hq
  ·simp only[mapBlock,Option.some.injEq]at hq;exact m hw (by omega)
 have hsA:∀{mv lv:Value} {xs:List A4},SetIsA w base mv lv xs->SetIsA (w.setCell ⟨tb,10,none⟩ (.int .i64 (k:Nat))) base mv lv xs:=by
  intro mv lv xs hx;refine hx.only ho (fun q hq e=>own_ne hx.1 h.blk (by decide) (e▸hq)) (fun q hq e=>?_);rcases hx.2.2 with⟨rfl,_⟩|⟨r,D,rfl,_,hw,_⟩
  ·simp[mapBlock]at hq
  ·simp only[mapBlock,Option.some.injEq]at hq;exact m hw (by omega)
 have hs:(w.setCell ⟨tb,10,none⟩ (.int .i64 (k:Nat))).heap.size=w.heap.size:=by simp[World.setCell]
 refine⟨⟨h.ok.below (by omega),hb,hsS h.names,hsS h.consts,r h.rules (by decide),hsA h.qs,r h.list (by decide),h.ot,h.oqm,h.oql,h.oli,h.onm,h.onl,h.ocm,h.ocl,h.oru,?_⟩,ho.mono (fun q e=>e▸h.ot)⟩;intro i t ht;obtain⟨ru,mv,lv,hT⟩:=h.tabs i t ht;exact⟨ru,mv,lv,hT.only ho (.refl 0 own) (fun q k hk e1 e2=>by rw[e2,h.ot]at e1;rcases hk with rfl|rfl<;>simp at e1)⟩
theorem TIs.addQ(h:TIs w own base tb V D qs S sz){qm' ql':Value}{qs':List A4}(hB:Blk w' tb [D.m0,D.m1,V.nm,V.nl,V.cm,V.cl,D.ru,qm',ql',V.li,.int .i64 (sz:Nat)] 110)(hS:SetIsA w' base qm' ql' qs')(hf:AddFrame w w' tb V.qm V.ql qm' ql')(hli:∀q,V.li.ownBlock=some q->mapBlock V.qm≠some q/\V.ql.ownBlock≠some q):
 TIs w' (ownAdd own (0,0) qm' ql') base tb ⟨V.nm,V.nl,V.cm,V.cl,qm',ql',V.li⟩ D qs' S sz/\AddOwn own base w w' (0,0) (0,0) qm' ql':=by
 have ha:=frame_own h.ok hf h.ot (fun s e=>by simp at e) h.oqm h.oql hS.shape hS.lt;have f:=fun k q (e:own q=some (1,k)) (e':own q=some (0,0))=>(by rw[e]at e';simp at e':False);refine⟨⟨ha.ok,hB,h.names.only ha.same (fun q hq=>f 0 q (h.onl q (.inr hq))) (fun q hq=>f 0 q (h.onm q (.inl hq))),h.consts.only ha.same (fun q hq=>f 1 q (h.ocl q (.inr hq))) (fun q hq=>f 1 q (h.ocm q (.inl hq))),own_only h.rules ha.same (fun q hq=>f 2 q (h.oru q (.inr hq))),hS,?_,ha.ext.keep _ _ h.ot,ha.om,ha.ol,h.oli.ext ha.ext,h.onm.ext ha.ext,h.onl.ext ha.ext,h.ocm.ext ha.ext,h.ocl.ext ha.ext,h.oru.ext ha.ext,?_⟩,ha⟩
 ·refine own_only h.list hf.only (fun q hq=>?_);obtain⟨b,c⟩:=hli q hq;rintro(e|e|e)
  ·exact own_ne h.list h.blk (by decide) (e▸hq)
  ·exact b e
  ·exact c e
 ·intro i t ht;obtain⟨ru,mv,lv,hT⟩:=h.tabs i t ht;exact⟨ru,mv,lv,hT.only ha.same ha.ext (fun q k hk e1 e2=>by rw[e1]at e2;rcases hk with rfl|rfl<;>simp at e2)⟩
theorem TIs.push(h:TIs w own base tb V D qs S sz){li':Value}{u:TabD}(hB:Blk w' tb [D.m0,D.m1,V.nm,V.nl,V.cm,V.cl,D.ru,V.qm,V.ql,li',.int .i64 (sz:Nat)] 110)(hL:w'.ownsRow base 144 1 li' (S.length+1) ((S++[u]).map tptr))(ho:Only (fun q=>own q=some (0,0)) w w')(hqs:SetIsA w' base V.qm V.ql qs)(he:OwnExt n own own')(hk:OwnOk own' base w')(hol:Owns own' (0,0) li'){ru mv lv:Value}(hT:TabIs w' own' base D.rules S.length u ru mv lv):
 TIs w' own' base tb ⟨V.nm,V.nl,V.cm,V.cl,V.qm,V.ql,li'⟩ D qs (S++[u]) sz:=by
 have f:=fun k q (e:own q=some (1,k)) (e':own q=some (0,0))=>(by rw[e]at e';simp at e':False);refine⟨hk,hB,h.names.only ho (fun q hq=>f 0 q (h.onl q (.inr hq))) (fun q hq=>f 0 q (h.onm q (.inl hq))),h.consts.only ho (fun q hq=>f 1 q (h.ocl q (.inr hq))) (fun q hq=>f 1 q (h.ocm q (.inl hq))),own_only h.rules ho (fun q hq=>f 2 q (h.oru q (.inr hq))),hqs,by simpa using hL,he.keep _ _ h.ot,h.oqm.ext he,h.oql.ext he,hol,h.onm.ext he,h.onl.ext he,h.ocm.ext he,h.ocl.ext he,h.oru.ext he,?_⟩;intro i t ht;by_cases hi:i<S.length
 ·rw[List.getElem?_append_left hi]at ht;obtain⟨ru,mv,lv,hT⟩:=h.tabs i t ht;exact⟨ru,mv,lv,hT.only ho he (fun q k hk e1 e2=>by rw[e1]at e2;rcases hk with rfl|rfl<;>simp at e2)⟩
 ·have hi':i=S.length:=by have:=(List.getElem?_eq_some_iff.1 ht).1;simp at this;omega
  subst hi';rw[List.getElem?_append_right (Nat.le_refl _)]at ht;simp at ht;subst ht;exact⟨ru,mv,lv,hT⟩
def ownPush(own:OwnF)(k nb:Nat)(v li:Value):OwnF:=fun q=>if q=nb then some (2,k) else if v.ownBlock=some q then some (4,k) else if li.ownBlock=some q then some (0,0) else own q
structure PushOwn(own:OwnF)(base:Nat)(w w':World)(k nb:Nat)(v li:Value):Prop where
 ext:OwnExt w.heap.size own (ownPush own k nb v li)
 ok:OwnOk (ownPush own k nb v li) base w'
 ob:ownPush own k nb v li nb=some (2,k)
 ov:Owns (ownPush own k nb v li) (4,k) v
 ol:Owns (ownPush own k nb v li) (0,0) li
theorem push_own{own:OwnF}{base:Nat}{w w':World}{k nb:Nat}{v li:Value}(hk:OwnOk own base w)(hs:w.heap.size<=w'.heap.size)(hnb:w.heap.size<=nb/\nb<w'.heap.size)(hv:∀q,v.ownBlock=some q->w.heap.size<=q/\q<w'.heap.size)(hvm:mapBlock v=none)(hvn:v.ownBlock≠some nb)(hl:∀q,li.ownBlock=some q->base<=q/\q<w'.heap.size)(hlm:mapBlock li=none)(hlo:∀q,li.ownBlock=some q->own q=some (0,0)\/w.heap.size<=q)(hne:∀q,li.ownBlock=some q->q≠nb/\v.ownBlock≠some q):PushOwn own base w w' k nb v li:=by
 have hb:=hk.base;refine⟨⟨?_,?_⟩,⟨?_,Nat.le_trans hb hs,?_⟩,?_,?_,?_⟩
 ·intro q o e;have hlt:=(hk.lt q o e).2;unfold ownPush;rw[if_neg (by omega),if_neg (fun h=>by have:=(hv q h).1;omega)]
  split
  ·rename_i h;rcases hlo q h with h1|h1
   ·rw[<-h1,e]
   ·omega
  ·exact e
 ·intro q o e;unfold ownPush at e
  split at e
  ·exact .inr (by omega)
  ·split at e
   ·rename_i h;exact .inr (hv q h).1
   ·split at e
    ·rename_i h;rcases hlo q h with h1|h1
     ·exact .inl (by rw[h1,e])
     ·exact .inr h1
    ·exact .inl e
 ·intro q o e;unfold ownPush at e
  split at e
  ·omega
  ·split at e
   ·rename_i h;have:=hv q h;omega
   ·split at e
    ·rename_i h;exact hl q h
    ·have:=hk.lt q o e;omega
 ·intro q s e;unfold ownPush at e
  split at e
  ·simp at e
  ·split at e
   ·simp at e
   ·split at e
    ·simp at e
    ·have:=hk.se q s e;omega
 ·unfold ownPush;rw[if_pos rfl]
 ·rintro q (h|h)
  ·rw[hvm]at h;cases h
  ·unfold ownPush;rw[if_neg (fun(e:q=nb)=>hvn (e▸h)),if_pos h]
 ·rintro q (h|h)
  ·rw[hlm]at h;cases h
  ·unfold ownPush;obtain⟨a,b⟩:=hne q h;rw[if_neg a,if_neg b,if_pos h]
theorem SeIs.add{sb:Nat}{nd nd':List Nat}{mv lv mv' lv':Value}(h:SeIs w own base tb sb nd mv lv)(hk:OwnOk own base w)(hB:Blk w' sb [.pointer (some ⟨tb,0,none⟩),mv',lv'] 182)(hS:SetIsI w' base mv' lv' nd')(hf:AddFrame w w' sb mv lv mv' lv'):
 SeIs w' (ownAdd own (3,sb) mv' lv') base tb sb nd' mv' lv'/\AddOwn own base w w' (3,sb) (3,sb) mv' lv':=by
 have ha:=frame_own hk hf h.ob (fun s e=>by injection e with _ e;subst e;exact hk.se sb _ h.ob) h.omv h.olv hS.shape hS.lt;exact⟨⟨hB,hS,ha.ext.keep _ _ h.ob,ha.om,ha.ol⟩,ha⟩
theorem TIs.addS(h:TIs w own base tb V D qs S sz){sb:Nat}{mv' lv':Value}(ha:AddOwn own base w w' (3,sb) (3,sb) mv' lv'):TIs w' (ownAdd own (3,sb) mv' lv') base tb V D qs S sz:=
 h.only ha.same ha.ext ha.ok (fun _ o e hn _ e'=>by rw[e]at e';injection e' with e';subst e';exact hn rfl)
end
theorem Went.add{X:Owner->Prop}{own:OwnF}{base:Nat}{w w':World}{ob o:Owner}{mv' lv':Value}(ha:AddOwn own base w w' ob o mv' lv')(hb:X ob)(hc:X o):Went X own w (ownAdd own o mv' lv') w':=
 ⟨ha.only.mono (fun _ e=>by rcases e with e|e;exact⟨ob,e,hb⟩;exact⟨o,e,hc⟩),ha.ext⟩
theorem Went.one{X:Owner->Prop}{own:OwnF}{w w':World}{o:Owner}(h:Only (fun q=>own q=some o) w w')(hc:X o):Went X own w own w':=
 ⟨h.mono (fun _ e=>⟨o,e,hc⟩),.refl _ _⟩
theorem TabIs.apart{w:World}{own:OwnF}{base i:Nat}{rules:List RuD}{t:TabD}{ru mv lv:Value}(h:TabIs w own base rules i t ru mv lv):∀q,ru.ownBlock=some q->q≠t.b/\mapBlock mv≠some q/\lv.ownBlock≠some q:=by
 intro q hq;refine⟨fun e=>own_ne h.rules h.blk (by decide) (e▸hq),fun e=>?_,fun e=>?_⟩
 ·rcases h.rows.2.2 with⟨rfl,_⟩|⟨r,D,rfl,_,hw,_⟩
  ·simp[mapBlock]at e
  ·simp only[mapBlock,Option.some.injEq]at e;exact map_row hw h.rules (e▸hq)
 ·rcases own_ne2 h.rules h.rows.1 (by decide) with h1|h1
  ·rw[h1]at hq;cases hq
  ·exact h1 (hq.trans e.symm)
theorem TIs.apart{w:World}{own:OwnF}{base tb:Nat}{V:TV}{D:TD}{qs:List A4}{S:List TabD}{sz:Nat}(h:TIs w own base tb V D qs S sz):∀q,V.li.ownBlock=some q->mapBlock V.qm≠some q/\V.ql.ownBlock≠some q:=by
 intro q hq;refine⟨fun e=>?_,fun e=>?_⟩
 ·rcases h.qs.2.2 with⟨e',_⟩|⟨r,D,e',_,hw,_⟩
  ·rw[e']at e;simp[mapBlock]at e
  ·rw[e']at e;simp only[mapBlock,Option.some.injEq]at e;exact map_row hw h.list (e▸hq)
 ·rcases own_ne2 h.list h.qs.1 (by decide) with h1|h1
  ·rw[h1]at hq;cases hq
  ·exact h1 (hq.trans e.symm)
end
section
attribute [local go_sem] drewN_alloc drewN_setCell
open Go.RowKit Go.WideMaps Go.Maps
variable [DecidableEq R3] [DecidableEq A4]
structure SCtx(M:Int->R3->Prop)(lay:Int->Nat)(N C:Nat)(D:TD):Prop where
 st:Stable D.rules M
 ro:RulesOk lay N C D.rules
 li:Lim N C
 nr:D.rules.length<=1000
def Tb(base tb:Nat)(D:TD)(w:World)(own:OwnF)(S:List TabD):Prop:=∃V,TIs w own base tb V D (S.map TabD.q) S (sizeT S)
structure Sr(M:Int->R3->Prop)(lay:Int->Nat)(N C base tb:Nat)(D:TD)(sb l:Nat)(w:World)(own:OwnF)(S:List TabD)(nd:List Nat):Prop where
 t:Tb base tb D w own S
 s:∃mv lv,SeIs w own base tb sb nd mv lv
 inv:Inv M N C S
 nn:nd.Nodup
 nd:∀i∈nd,∃t,S[i]? =some t/\lay t.q.n<=l
structure QOk(N C:Nat)(a:A4):Prop where
 n:0<=a.n/\a.n<N
 r:∀y,a.r.Has y->y<C
theorem QOk.kind{N C:Nat}{a:A4}(h:QOk N C a):∀y,a.r.kind.Has y-> -3<=y/\y<C:=by
 intro y hy;rcases kind_has hy with⟨h1,h2⟩|⟨h1,h2⟩
 ·omega
 ·exact⟨by omega,h.r y h2⟩
theorem QOk.wf{N C:Nat}{a:A4}(h:QOk N C a)(hL:Lim N C):(A4.mk a.n a.r.kind).Wf:=by have hn:=hL.n;have hc:=hL.c;have k:=h.kind;have k0:=k _ (.inl rfl);have k1:=k _ (.inr (.inl rfl));have k2:=k _ (.inr (.inr rfl));have:=h.n;exact⟨⟨by show _<=a.n;omega,by show a.n<=_;omega⟩,⟨⟨by show _<=a.r.kind.a;omega,by show a.r.kind.a<=_;omega⟩,⟨by show _<=a.r.kind.b;omega,by show a.r.kind.b<=_;omega⟩,⟨by show _<=a.r.kind.c;omega,by show a.r.kind.c<=_;omega⟩⟩⟩
def CutOk:Prop:=∀(w:World) (base tb:Nat) (ao:Option Addr) (cap:Nat) (rules:List RuD) (q:A4),w.cell? ⟨tb,6,none⟩=some (.slice ao rules.length cap)->w.ownsRow base 118 22 (.slice ao rules.length cap) rules.length (rules.flatMap cellsU)->rules.length<=1000->(∀r∈rules,r.Wf)->
 Calls prog 144 #[.pointer (some ⟨tb,0,none⟩),.agg #[.int .i64 q.n,.int .i64 q.r.a,.int .i64 q.r.b,.int .i64 q.r.c]] w fun e w'=>∃v,e=.returned v/\w'.ownsRow w.heap.size 118 22 v (cutG rules q).length ((cutG rules q).flatMap cellsU)/\Below w.heap.size w w'
theorem infoPT:(prog.info? 144).map (fun i=>(i.zero,i.size,i.bytes))=some (some (.pointer none),1,8):=by kernel_rfl
theorem mem_q{S:List TabD}{q:A4}(h:q∈S.map TabD.q):∃t,S[posG (S.map TabD.q) q]? =some t/\t.q=q:=by
 unfold posG;rw[if_pos h];have hl:=List.idxOf_lt_length_iff.2 h;have h1:(S.map TabD.q)[(S.map TabD.q).idxOf q]? =some q:=by rw[List.getElem?_eq_getElem hl];simp
 rw[List.getElem?_map]at h1;obtain⟨t,h2,h3⟩:=Option.map_eq_some_iff.1 h1;exact⟨t,h2,h3⟩
theorem tableOf_c(hcut:CutOk){M:Int->R3->Prop}{lay:Int->Nat}{N C base tb:Nat}{D:TD}(hX:SCtx M lay N C D)(w:World)(own:OwnF)(S:List TabD)(hT:Tb base tb D w own S)(hI:Inv M N C S)(a:A4)(ha:QOk N C a):
 Calls prog 120 #[.pointer (some ⟨tb,0,none⟩),.agg #[.int .i64 a.n,.int .i64 a.r.a,.int .i64 a.r.b,.int .i64 a.r.c]] w fun e w'=>∃(own':OwnF) (S':List TabD) (i:Nat) (t:TabD),e=.returned (.int .i64 (i:Nat))/\Tb base tb D w' own' S'/\Inv M N C S'/\S'[i]? =some t/\t.q=⟨a.n,a.r.kind⟩/\Grow S S'/\sizeT S'=sizeT S/\Went ChF own w own' w':=by
 obtain⟨V,hT⟩:=hT;have hQ0:=Blk.new w (cellsA a) 115;have hB0:=below_alloc w (.cells #[.int .i64 a.n,.int .i64 a.r.a,.int .i64 a.r.b,.int .i64 a.r.c] 115);go_enter func120,ntmps120;go_upto_region 2 with(go_at_call 142;refine(kind_c _ a.r).mono ?_;rintro e w1 ⟨rfl,hB1⟩;have hQ1:=hQ0.below hB1;have fQ1:=hQ1.frozen;have y0:w1.cell? ⟨w.heap.size,0,none⟩=some (.int .i64 a.n):=hQ1.cell 0;have y1:w1.cell? ⟨w.heap.size,1,none⟩=some (.int .i64 a.r.a):=hQ1.cell 1;have y2:w1.cell? ⟨w.heap.size,2,none⟩=some (.int .i64 a.r.b):=hQ1.cell 2;have y3:w1.cell? ⟨w.heap.size,3,none⟩=some (.int .i64 a.r.c):=hQ1.cell 3)
 have hQ2:Blk (((w1.setCell ⟨w.heap.size,1,none⟩ (.int .i64 a.r.kind.a)).setCell ⟨w.heap.size,2,none⟩ (.int .i64 a.r.kind.b)).setCell ⟨w.heap.size,3,none⟩ (.int .i64 a.r.kind.c)) w.heap.size (cellsA ⟨a.n,a.r.kind⟩) 115:=((hQ1.setCell 1 _).setCell 2 _).setCell 3 _;have hB2:Below w.heap.size w (((w1.setCell ⟨w.heap.size,1,none⟩ (.int .i64 a.r.kind.a)).setCell ⟨w.heap.size,2,none⟩ (.int .i64 a.r.kind.b)).setCell ⟨w.heap.size,3,none⟩ (.int .i64 a.r.kind.c)):=(((hB0.trans (hB1.mono hB0.size)).setCell (p:=⟨w.heap.size,1,none⟩) (Nat.le_refl _) _).setCell (p:=⟨w.heap.size,2,none⟩) (Nat.le_refl _) _).setCell (p:=⟨w.heap.size,3,none⟩) (Nat.le_refl _) _;generalize (((w1.setCell ⟨w.heap.size,1,none⟩ (.int .i64 a.r.kind.a)).setCell ⟨w.heap.size,2,none⟩ (.int .i64 a.r.kind.b)).setCell ⟨w.heap.size,3,none⟩ (.int .i64 a.r.kind.c))=w2 at*;clear hQ0 hB0 hQ1 hB1 fQ1 y0 y1 y2 y3 w1;have hT2:=hT.below hB2;have hlq:=questions_few hI;have hwf:=ha.wf hX.li;have hLq:=hX.li.q;have y0:w2.cell? ⟨w.heap.size,0,none⟩=some (.int .i64 a.n):=hQ2.cell 0;have y1:w2.cell? ⟨w.heap.size,1,none⟩=some (.int .i64 a.r.kind.a):=hQ2.cell 1;have y2:w2.cell? ⟨w.heap.size,2,none⟩=some (.int .i64 a.r.kind.b):=hQ2.cell 2;have y3:w2.cell? ⟨w.heap.size,3,none⟩=some (.int .i64 a.r.kind.c):=hQ2.cell 3;have hl2:=hQ2.lt;have htl:=hT2.blk.lt;have hbw:=hT2.ok.base;have HA:=hid (addAnyA w2.drew base tb 7 _ 110 V.qm V.ql (S.map TabD.q) ⟨a.n,a.r.kind⟩ (by exact hT2.blk.drew) rfl rfl (by exact hT2.qs) hwf (by simp;omega) (by decide) (by exact hbw));obtain⟨p,HP⟩:∃p:Nat,Hid (p=posG (addG (S.map TabD.q) ⟨a.n,a.r.kind⟩) ⟨a.n,a.r.kind⟩):=⟨_,rfl⟩;obtain⟨bb,HB⟩:∃b:Bool,Hid (b=decide (A4.mk a.n a.r.kind∉S.map TabD.q)):=⟨_,rfl⟩;rw[<-HP.out,<-HB.out]at HA
 go_cut [5,6] from 7 to 34 (fun x y wx=>x=.int .i64 (p:Nat)/\y=.bool bb/\∃qm' ql',Blk wx tb [D.m0,D.m1,V.nm,V.nl,V.cm,V.cl,D.ru,qm',ql',V.li,.int .i64 (sizeT S:Nat)] 110/\SetIsA wx base qm' ql' (addG (S.map TabD.q) ⟨a.n,a.r.kind⟩)/\AddFrame w2 wx tb V.qm V.ql qm' ql')
 case first=>
  go_region_with (go_at_call 143;refine(HA.out).mono ?_;rintro e w3 ⟨rfl,qm',ql',hB3,hS3,hF3⟩)
  all_goals go_wp2_with fail
  all_goals go_meet
  all_goals exact⟨rfl,rfl,qm',ql',hB3,hS3,⟨⟨hF3.only.os,hF3.only.tape,hF3.only.output,hF3.only.size,hF3.only.block⟩,hF3.map,hF3.row⟩⟩
 case rest=>
  clear HA;obtain⟨rfl,rfl,qm',ql',hB3,hS3,hF3⟩:=hcut;obtain⟨w3,hw3⟩:∃x:World,x=wc:=⟨wc,rfl⟩;subst hw3;obtain⟨hT3,hA3⟩:=hT2.addQ hB3 hS3 hF3 hT2.apart
  have hQo:own w.heap.size=none:=by
   cases e:own w.heap.size with
   |none=>rfl
   |some o=>exact absurd (hT.ok.lt _ o e).2 (by omega)
  have hW3:Went ChF own w (ownAdd own (0,0) qm' ql') w3:=(Went.below hB2).trans (Went.add hA3 (.inl rfl) (.inl rfl));have hQ3:=hQ2.only hA3.same (by rw[hQo];simp)
  cases bb with
  |false=>
   go_wp2_with fail
   go_ret
   have hm:A4.mk a.n a.r.kind∈S.map TabD.q:=by have:=HB.out;simpa using this.symm
   have e1:addG (S.map TabD.q) ⟨a.n,a.r.kind⟩=S.map TabD.q:=by unfold addG;rw[if_pos hm]
   rw[e1]at hT3 HP;obtain⟨t,ht,hq⟩:=mem_q hm;rw[<-HP.out]at ht;exact⟨_,S,p,t,rfl,⟨_,hT3⟩,hI,ht,hq,.refl S,rfl,hW3⟩
  |true=>
   have hm:A4.mk a.n a.r.kind∉S.map TabD.q:=by have:=HB.out;simpa using this.symm
   have e1:addG (S.map TabD.q) ⟨a.n,a.r.kind⟩=S.map TabD.q++[⟨a.n,a.r.kind⟩]:=by unfold addG;rw[if_neg hm]
   have e2:p=S.length:=by have:=HP.out;rw[e1,posG_new _ _ hm]at this;simpa using this
   rw[e1]at hT3;clear HP HB hS3 e1;subst e2;obtain⟨ao,cap,hru⟩:=own_form hT3.rules;obtain⟨lo,lc,hli⟩:=own_form hT3.list;simp only at hru hli;have c6:w3.cell? ⟨tb,6,none⟩=some (.slice ao D.rules.length cap):=by rw[hB3.cell 6,<-hru];rfl
   have c9:w3.cell? ⟨tb,9,none⟩=some (.slice lo S.length lc):=by rw[hB3.cell 9,<-hli];rfl
   have HC:=hid (hcut w3.drew base tb ao cap D.rules ⟨a.n,a.r.kind⟩ (by exact c6) (by have:=hT3.rules;simp only[hru]at this;exact this) hX.nr hX.ro.wf);obtain⟨i1,hi1,hy0,hy1,hy2⟩:=info_parts infoPT;have hl3:=hB3.lt;have hq3:=hQ3.lt;have z0:w3.cell? ⟨w.heap.size,0,none⟩=some (.int .i64 a.n):=hQ3.cell 0;have z1:w3.cell? ⟨w.heap.size,1,none⟩=some (.int .i64 a.r.kind.a):=hQ3.cell 1;have z2:w3.cell? ⟨w.heap.size,2,none⟩=some (.int .i64 a.r.kind.b):=hQ3.cell 2;have z3:w3.cell? ⟨w.heap.size,3,none⟩=some (.int .i64 a.r.kind.c):=hQ3.cell 3;go_upto_region 4 with fail
   go_cut [] from 7 to 34 (fun wx=>∃(v li':Value) (nb:Nat),w3.heap.size<=nb/\Blk wx nb [v,.map none,.slice none 0 0,.bool false] 152/\wx.ownsRow w3.heap.size 118 22 v (cutG D.rules ⟨a.n,a.r.kind⟩).length ((cutG D.rules ⟨a.n,a.r.kind⟩).flatMap cellsU)/\Blk wx tb [D.m0,D.m1,V.nm,V.nl,V.cm,V.cl,D.ru,qm',ql',li',.int .i64 (sizeT S:Nat)] 110/\
    wx.ownsRow base 144 1 li' (S.length+1) (S.map tptr++[.pointer (some ⟨nb,0,none⟩)])/\(li'.ownBlock=V.li.ownBlock\/∀q,li'.ownBlock=some q->w3.heap.size<=q)/\Only (fun q=>q=tb\/V.li.ownBlock=some q) w3 wx)
   case first=>
    have hLi:w3.ownsRow base 144 1 (.slice lo S.length lc) S.length (S.map tptr):=by have:=hT3.list;simp only[hli]at this;exact this
    have hbw3:=hT3.ok.base
    go_region_law (first|(refine step_append_at _ rfl (.tmp 24) (.tmp 30) 108 rfl base 144 i1 _ 1 8 underlying108 hi1 hy0 hy1 hy2 rfl (by decide) (.slice lo S.length lc) S.length (S.map tptr) (by simp[Act.eval]) hL5 ⟨w4.heap.size+1,0,none⟩ 1 1 [.pointer (some ⟨w4.heap.size,0,none⟩)] (by simp[Act.eval]) (by decide) rfl hnews hone (by unfold maxLen;omega) (by omega) hbb ?_;intro g cap2 w6 hL6 hg6 hwh;have hB6:=hBk5.grown hg6 (own_ne hL5 hBk5 (by decide));have f6:=hB6.frozen;have g9:w6.cell? ⟨tb,9,none⟩=some V.li:=hB6.cell 9)|(go_simp;go_wp2_with (go_at_call 144;refine(HC.out).mono ?_;rintro e w4 ⟨v,rfl,hv4,hB4⟩;obtain⟨va,vc,rfl⟩:=own_form hv4;have hB4':Below w3.heap.size w3 w4:=(Below.refl w3.heap.size w3).drew.trans hB4;have hBk4:=hB3.below hB4';have d9:w4.cell? ⟨tb,9,none⟩=some (.slice lo S.length lc):=((hBk4.cell 9).trans (hB3.cell 9).symm).trans c9;have hs4:=hB4'.size;have hl4:=hBk4.lt;have f9:=hBk4.frozen;have hL5:=((own_below hLi hB4').alloc (.cells #[.slice va (cutG D.rules ⟨a.n,a.r.kind⟩).length vc,.map none,.slice none 0 0,.bool false] 152)).alloc (.cells #[.pointer (some ⟨w4.heap.size,0,none⟩)] 144);have hBk5:=(hBk4.alloc (.cells #[.slice va (cutG D.rules ⟨a.n,a.r.kind⟩).length vc,.map none,.slice none 0 0,.bool false] 152)).alloc (.cells #[.pointer (some ⟨w4.heap.size,0,none⟩)] 144);have hnews:∀j u,[Value.pointer (some ⟨w4.heap.size,0,none⟩)][j]? =some u->((w4.alloc (.cells #[.slice va (cutG D.rules ⟨a.n,a.r.kind⟩).length vc,.map none,.slice none 0 0,.bool false] 152)).alloc (.cells #[.pointer (some ⟨w4.heap.size,0,none⟩)] 144)).cell? ((⟨w4.heap.size+1,0,none⟩:Addr).add j)=some u:=(by have:=new_cells (w4.alloc (.cells #[.slice va (cutG D.rules ⟨a.n,a.r.kind⟩).length vc,.map none,.slice none 0 0,.bool false] 152)) [Value.pointer (some ⟨w4.heap.size,0,none⟩)] 144;simpa using this);have hone:∀u∈[Value.pointer (some ⟨w4.heap.size,0,none⟩)],u.oneCell'=true:=(by intro u hu;simp at hu;subst hu;rfl);have hbb:base<=((w4.alloc (.cells #[.slice va (cutG D.rules ⟨a.n,a.r.kind⟩).length vc,.map none,.slice none 0 0,.bool false] 152)).alloc (.cells #[.pointer (some ⟨w4.heap.size,0,none⟩)] 144)).heap.size:=(by simp;omega))))
    all_goals go_wp2_with fail
    all_goals go_meet
    all_goals
     have O5:Only (fun q=>q=tb\/V.li.ownBlock=some q) ((w4.alloc (.cells #[.slice va (cutG D.rules ⟨a.n,a.r.kind⟩).length vc,.map none,.slice none 0 0,.bool false] 152)).alloc (.cells #[.pointer (some ⟨w4.heap.size,0,none⟩)] 144)) (w6.setCell ⟨tb,9,none⟩ (.slice (some ⟨g,0,none⟩) (S.length+1) cap2)):=((Only.of_below (Below.refl _ _)).grown hg6 (fun q hq=>.inl (.inr (by rw[hli];exact hq)))).setCell (p:=⟨tb,9,none⟩) (.inl (.inl rfl)) _;have hv5:=(hv4.alloc (.cells #[.slice va (cutG D.rules ⟨a.n,a.r.kind⟩).length vc,.map none,.slice none 0 0,.bool false] 152)).alloc (.cells #[.pointer (some ⟨w4.heap.size,0,none⟩)] 144);have hN5:=(Blk.new w4 [.slice va (cutG D.rules ⟨a.n,a.r.kind⟩).length vc,.map none,.slice none 0 0,.bool false] 152).alloc (.cells #[.pointer (some ⟨w4.heap.size,0,none⟩)] 144);refine⟨.slice va (cutG D.rules ⟨a.n,a.r.kind⟩).length vc,.slice (some ⟨g,0,none⟩) (S.length+1) cap2,w4.heap.size,hs4,hN5.only O5 ?_,own_only hv5 O5 ?_,hB6.setCell 9 _,own_set hL6 ⟨tb,9,none⟩ _ (own_ne hL6 hB6 (by decide)),?_,?_⟩
     ·rintro(e|e)
      ·omega
      ·rw[hli]at e;exact own_ne hL5 hN5 (by decide) e
     ·intro q hq;rintro(e|e)
      ·exact own_ne hv5 hBk5 (by decide) (e▸hq)
      ·rw[hli]at e;rcases own_ne2 hv5 hL5 (by decide) with h1|h1
       ·rw[h1]at hq;cases hq
       ·exact h1 (hq.trans e.symm)
     ·rcases hwh with h1|h1
      ·left
       rw[hli,<-h1];rfl
      ·right
       intro q hq;simp[Value.ownBlock]at hq;simp at h1;omega
     ·exact((((Only.of_below hB4').alloc _).alloc _).grown hg6 (fun q hq=>.inl (.inr (by rw[hli];exact hq)))).setCell (p:=⟨tb,9,none⟩) (.inl (.inl rfl)) _
   case rest=>
    obtain⟨v,li',nb,hnb,hNB,hv,hTB,hL,hlw,hO⟩:=hcut
    have hP:=push_own (k:=S.length) (v:=v) (li:=li') hT3.ok hO.size ⟨hnb,hNB.lt⟩ (fun q hq=>hv.lt q hq) (shape_of hv) (own_ne hv hNB (by decide)) (fun q hq=>hL.lt q hq) (shape_of hL) (fun q hq=>by
     rcases hlw with e|e
     ·exact .inl (hT3.oli q (.inr (e▸hq)))
     ·exact .inr (e q hq)) (fun q hq=>⟨fun e=>own_ne hL hNB (by decide) (e▸hq),fun e=>by
      rcases own_ne2 hv hL (by decide) with h1|h1
      ·rw[h1]at e;cases e
      ·exact h1 (e.trans hq.symm)⟩)
    have hO':Only (fun q=>ownAdd own (0,0) qm' ql' q=some (0,0)) w3 wc:=hO.mono (by
     rintro q (e|e)
     ·rw[e];exact hT3.ot
     ·exact hT3.oli q (.inr e))
    have hqs:=hT3.qs.only hO (fun q hq=>by
     rintro(e|e)
     ·exact own_ne hT3.qs.1 hT3.blk (by decide) (e▸hq)
     ·exact(hT3.apart q e).2 hq) (fun q hq=>by
     rintro(e|e)
     ·rcases hT3.qs.2.2 with⟨e',_⟩|⟨r,D,e',_,hw,_⟩
      ·rw[e']at hq;simp[mapBlock]at hq
      ·rw[e']at hq;simp only[mapBlock,Option.some.injEq]at hq;exact map_ne hw hT3.blk (by omega)
     ·exact(hT3.apart q e).1 hq)
    have hvb:wc.ownsRow base 118 22 v (cutG D.rules ⟨a.n,a.r.kind⟩).length ((cutG D.rules ⟨a.n,a.r.kind⟩).flatMap cellsU):=own_mono hv hT3.ok.base;have hT5:=hT3.push (u:=⟨⟨a.n,a.r.kind⟩,nb,[],false⟩) hTB (by rw[List.map_append];exact hL) hO' hqs hP.ext hP.ok hP.ol (ru:=v) (mv:=.map none) (lv:=.slice none 0 0) ⟨hNB,hvb,SetIsR.nil _ _,hP.ob,hP.ov,Owns.nil_map _ _,Owns.nil_slice _ _⟩;go_wp2_with fail
    go_ret
    have hI':=hI.new nb hm (by simpa using ha.n) ha.kind;have hW5:Went ChF (ownAdd own (0,0) qm' ql') w3 (ownPush (ownAdd own (0,0) qm' ql') S.length nb v li') wc:=⟨hO'.mono (fun q e=>⟨_,e,.inl rfl⟩),hP.ext⟩;have hz:sizeT (S++[⟨⟨a.n,a.r.kind⟩,nb,[],false⟩])=sizeT S:=sizeT_snoc _ _;rw[show S.map TabD.q++[(⟨a.n,a.r.kind⟩:A4)]=(S++[TabD.mk ⟨a.n,a.r.kind⟩ nb [] false]).map TabD.q by rw[List.map_append];rfl,<-hz]at hT5;exact⟨ownPush (ownAdd own (0,0) qm' ql') S.length nb v li',S++[⟨⟨a.n,a.r.kind⟩,nb,[],false⟩],S.length,rfl,⟨_,hT5⟩,hI',⟨⟨a.n,a.r.kind⟩,nb,[],false⟩,by simp,rfl,Grow.snoc _ _,hz,hW3.trans hW5⟩
end
end Go.Proofs.YtpbfiffgcgnidaaGreat
