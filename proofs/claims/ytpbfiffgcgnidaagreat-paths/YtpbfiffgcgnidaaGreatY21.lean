import Derived.Test.YtpbfiffgcgnidaaGreatYal
import Derived.Test.YtpbfiffgcgnidaaGreatY17
import Derived.Test.YtpbfiffgcgnidaaGreatY18
import Derived.Test.YtpbfiffgcgnidaaGreatY19
import Derived.Test.YtpbfiffgcgnidaaGreatY20
namespace Go.Proofs.YtpbfiffgcgnidaaGreat
set_option maxRecDepth 100000
set_option maxHeartbeats 4000000
set_option linter.unusedSectionVars false
set_option linter.unusedSimpArgs false
open Go.Proofs.Tryz
section
open Go.RowKit Go.WideMaps Go.Maps
variable [DecidableEq R3] [DecidableEq A4]
abbrev Bv:=Nat×Nat
abbrev Au:=Nat->Option Bv
def BF(own:Au)(o:Bv)(v:Value):Prop:=∀q,(Af v=some q\/v.ownBlock=some q)->own q=some o
structure Dd(own:Au)(base:Nat)(w:World):Prop where
 lt:∀q o,own q=some o->base<=q/\q<w.heap.size
 base:base<=w.heap.size
 se:∀q s,own q=some (3,s)->s<w.heap.size
def Ch(sb:Nat)(o:Bv):Prop:=o.1=0\/o.1=2\/o=(3,sb)
def IK(o:Bv):Prop:=o.1=0\/o.1=2
def PL(own:Au)(X:Bv->Prop)(q:Nat):Prop:=∃o,own q=some o/\X o
structure B0(n:Nat)(own own':Au):Prop where
 keep:∀q o,own q=some o->own' q=some o
 new:∀q o,own' q=some o->own q=some o\/n<=q
theorem B0.refl(n:Nat)(own:Au):B0 n own own:=⟨fun _ _ h=>h,fun _ _ h=>.inl h⟩
theorem B0.trans{n m:Nat}{a b c:Au}(h:B0 n a b)(g:B0 m b c)(hm:n<=m):B0 n a c:=
 ⟨fun q o e=>g.keep q o (h.keep q o e),fun q o e=>by
   rcases g.new q o e with e|e
   ·exact h.new q o e
   ·exact .inr (Nat.le_trans hm e)⟩
structure AI(X:Bv->Prop)(own:Au)(w:World)(own':Au)(w':World):Prop where
 only:Ax (PL own X) w w'
 ext:B0 w.heap.size own own'
theorem AI.refl(X:Bv->Prop)(own:Au)(w:World):AI X own w own w:=⟨Ax.of_below (Below.refl _ _),.refl _ _⟩
theorem AI.below{X:Bv->Prop}{own:Au}{w w':World}(h:Below w.heap.size w w'):AI X own w own w':=⟨Ax.of_below h,.refl _ _⟩
theorem AI.trans{X:Bv->Prop}{a b c:Au}{w w1 w2:World}(h:AI X a w b w1)(g:AI X b w1 c w2):AI X a w c w2:=
 ⟨h.only.trans g.only (fun k hk ⟨o,ho,hc⟩=>by
   rcases h.ext.new k o ho with e|e
   ·exact⟨o,e,hc⟩
   ·omega),h.ext.trans g.ext h.only.size⟩
theorem AI.mono{X Y:Bv->Prop}{a b:Au}{w w1:World}(h:AI X a w b w1)(hxy:∀o,X o->Y o):AI Y a w b w1:=⟨h.only.mono (fun _ ⟨o,e,c⟩=>⟨o,e,hxy o c⟩),h.ext⟩
theorem IK.ch(sb:Nat)(o:Bv)(h:IK o):Ch sb o:=by
 rcases h with h|h
 ·exact .inl h
 ·exact .inr (.inl h)
theorem AI.thenBelow{X:Bv->Prop}{a b:Au}{w w1 w2:World}(h:AI X a w b w1)(g:Below w1.heap.size w1 w2):AI X a w b w2:=h.trans (AI.below g)
theorem BF.ext{n:Nat}{own own':Au}{o:Bv}{v:Value}(h:BF own o v)(he:B0 n own own'):BF own' o v:=fun q hq=>he.keep q o (h q hq)
theorem BF.nil_map(own:Au)(o:Bv):BF own o (.map none):=by intro q hq;simp[Af,Value.ownBlock]at hq
theorem BF.nil_slice(own:Au)(o:Bv):BF own o (.slice none 0 0):=by intro q hq;simp[Af,Value.ownBlock]at hq
theorem Dd.below{own:Au}{base:Nat}{w w':World}(h:Dd own base w)(hs:w.heap.size<=w'.heap.size):Dd own base w':=⟨fun q o e=>⟨(h.lt q o e).1,Nat.lt_of_lt_of_le (h.lt q o e).2 hs⟩,Nat.le_trans h.base hs,fun q s e=>Nat.lt_of_lt_of_le (h.se q s e) hs⟩
def Bq(own:Au)(o:Bv)(mv lv:Value):Au:=fun q=>if Af mv=some q\/lv.ownBlock=some q then some o else own q
theorem J3{own:Au}{o:Bv}{n:Nat}{mv lv:Value}(hl:∀q o,own q=some o->q<n)(h:∀q,(Af mv=some q\/lv.ownBlock=some q)->own q=some o\/n<=q):B0 n own (Bq own o mv lv):=by
 refine⟨fun q o' e=>?_,fun q o' e=>?_⟩
 ·unfold Bq
  split
  ·rename_i hq;rcases h q hq with h|h
   ·rw[<-h,e]
   ·have:=hl q o' e;omega
  ·exact e
 ·unfold Bq at e
  split at e
  ·rename_i hq;rcases h q hq with h|h
   ·left
    rw[<-e,h]
   ·exact .inr h
  ·exact .inl e
theorem Gx{own:Au}{o:Bv}{mv lv:Value}(q:Nat)(h:Af mv=some q\/lv.ownBlock=some q):Bq own o mv lv q=some o:=by unfold Bq;rw[if_pos h]
def AS(own:Au)(o:Bv)(b:Nat):Au:=fun q=>if q=b then some o else own q
theorem Gw(own:Au)(o:Bv)(b:Nat):AS own o b b=some o:=by simp[AS]
structure TD where
 m0:Value
 m1:Value
 ru:Value
 names:List B8
 consts:List B8
 rules:List Bm
structure TV where
 nm:Value
 nl:Value
 cm:Value
 cl:Value
 qm:Value
 ql:Value
 li:Value
structure Ef(w:World)(own:Au)(base:Nat)(rules:List Bm)(i:Nat)(t:Aj)(ru mv lv:Value):Prop where
 blk:Ag w t.b [ru,mv,lv,.bool t.fin] 152
 rules:w.ownsRow base 118 22 ru (BE rules t.q).length ((BE rules t.q).flatMap Aa)
 rows:Bs w base mv lv t.rows
 ob:own t.b=some (2,i)
 oru:BF own (4,i) ru
 omv:BF own (2,i) mv
 olv:BF own (2,i) lv
def IN(t:Aj):Value:=.pointer (some ⟨t.b,0,none⟩)
structure Cd(w:World)(own:Au)(base tb:Nat)(V:TV)(D:TD)(qs:List A4)(S:List Aj)(sz:Nat):Prop where
 ok:Dd own base w
 blk:Ag w tb [D.m0,D.m1,V.nm,V.nl,V.cm,V.cl,D.ru,V.qm,V.ql,V.li,.int .i64 (sz:Nat)] 110
 names:AY w base V.nm V.nl D.names
 consts:AY w base V.cm V.cl D.consts
 rules:w.ownsRow base 118 22 D.ru D.rules.length (D.rules.flatMap Aa)
 qs:Bg w base V.qm V.ql qs
 list:w.ownsRow base 144 1 V.li S.length (S.map IN)
 ot:own tb=some (0,0)
 oqm:BF own (0,0) V.qm
 oql:BF own (0,0) V.ql
 oli:BF own (0,0) V.li
 onm:BF own (1,0) V.nm
 onl:BF own (1,0) V.nl
 ocm:BF own (1,1) V.cm
 ocl:BF own (1,1) V.cl
 oru:BF own (1,2) D.ru
 tabs:∀(i:Nat) (t:Aj),S[i]? =some t->∃ru mv lv,Ef w own base D.rules i t ru mv lv
structure E0(w:World)(own:Au)(base tb sb:Nat)(nd:List Nat)(mv lv:Value):Prop where
 blk:Ag w sb [.pointer (some ⟨tb,0,none⟩),mv,lv] 182
 set:Bt w base mv lv nd
 ob:own sb=some (3,sb)
 omv:BF own (3,sb) mv
 olv:BF own (3,sb) lv
section
variable {w w':World} {own own':Au} {base tb:Nat} {P:Nat->Prop}
theorem Ef.only{rules:List Bm}{i n:Nat}{t:Aj}{ru mv lv:Value}(h:Ef w own base rules i t ru mv lv)(ho:Ax P w w')(he:B0 n own own')(hP:∀q k,k=2\/k=4->own q=some (k,i)->¬P q):Ef w' own' base rules i t ru mv lv:=
 ⟨h.blk.only ho (hP _ 2 (.inl rfl) h.ob),AU h.rules ho (fun q hq=>hP q 4 (.inr rfl) (h.oru q (.inr hq))),h.rows.only ho (fun q hq=>hP q 2 (.inl rfl) (h.olv q (.inr hq))) (fun q hq=>hP q 2 (.inl rfl) (h.omv q (.inl hq))),he.keep _ _ h.ob,h.oru.ext he,h.omv.ext he,h.olv.ext he⟩
theorem E0.only{sb n:Nat}{nd:List Nat}{mv lv:Value}(h:E0 w own base tb sb nd mv lv)(ho:Ax P w w')(he:B0 n own own')(hP:∀q,own q=some (3,sb)->¬P q):E0 w' own' base tb sb nd mv lv:=
 ⟨h.blk.only ho (hP _ h.ob),h.set.only ho (fun q hq=>hP q (h.olv q (.inr hq))) (fun q hq=>hP q (h.omv q (.inl hq))),he.keep _ _ h.ob,h.omv.ext he,h.olv.ext he⟩
theorem Cd.only{V:TV}{D:TD}{qs:List A4}{S:List Aj}{sz n:Nat}(h:Cd w own base tb V D qs S sz)(ho:Ax P w w')(he:B0 n own own')(hk:Dd own' base w')(hP:∀q o,own q=some o->o.1≠3->o.1≠5->¬P q):Cd w' own' base tb V D qs S sz:=by have z:=fun q (e:own q=some (0,0))=>hP q _ e (by simp) (by simp);have f:=fun k q (e:own q=some (1,k))=>hP q _ e (by simp) (by simp);refine⟨hk,h.blk.only ho (z _ h.ot),h.names.only ho (fun q hq=>f 0 q (h.onl q (.inr hq))) (fun q hq=>f 0 q (h.onm q (.inl hq))),h.consts.only ho (fun q hq=>f 1 q (h.ocl q (.inr hq))) (fun q hq=>f 1 q (h.ocm q (.inl hq))),AU h.rules ho (fun q hq=>f 2 q (h.oru q (.inr hq))),h.qs.only ho (fun q hq=>z q (h.oql q (.inr hq))) (fun q hq=>z q (h.oqm q (.inl hq))),AU h.list ho (fun q hq=>z q (h.oli q (.inr hq))),he.keep _ _ h.ot,h.oqm.ext he,h.oql.ext he,h.oli.ext he,h.onm.ext he,h.onl.ext he,h.ocm.ext he,h.ocl.ext he,h.oru.ext he,?_⟩;intro i t ht;obtain⟨ru,mv,lv,hT⟩:=h.tabs i t ht;exact⟨ru,mv,lv,hT.only ho he (fun q k hk e=>hP q _ e (by rcases hk with rfl|rfl<;>simp) (by rcases hk with rfl|rfl<;>simp))⟩
theorem Cd.below{V:TV}{D:TD}{qs:List A4}{S:List Aj}{sz:Nat}(h:Cd w own base tb V D qs S sz)(hb:Below w.heap.size w w'):Cd w' own base tb V D qs S sz:=
 h.only (P:=fun _=>False) (Ax.of_below hb) (.refl 0 own) (h.ok.below hb.size) (fun _ _ _ _ _ e=>e)
theorem E0.below{sb:Nat}{nd:List Nat}{mv lv:Value}(h:E0 w own base tb sb nd mv lv)(hb:Below w.heap.size w w'):E0 w' own base tb sb nd mv lv:=
 h.only (P:=fun _=>False) (Ax.of_below hb) (.refl 0 own) (fun _ _ e=>e)
theorem Ef.below{rules:List Bm}{i:Nat}{t:Aj}{ru mv lv:Value}(h:Ef w own base rules i t ru mv lv)(hb:Below w.heap.size w w'):Ef w' own base rules i t ru mv lv:=
 h.only (P:=fun _=>False) (Ax.of_below hb) (.refl 0 own) (fun _ _ _ _ e=>e)
end
theorem Ag.went{X:Bv->Prop}{own own':Au}{w w':World}{b:Nat}{cs:List Value}{t:TypeId}(h:Ag w b cs t)(hw:AI X own w own' w')(hn:own b=none):Ag w' b cs t:=
 h.only hw.only (fun⟨o,e,_⟩=>by rw[hn]at e;cases e)
theorem AI.none{X:Bv->Prop}{own own':Au}{w w':World}(hw:AI X own w own' w'){b:Nat}(hb:b<w.heap.size)(hn:own b=none):own' b=none:=by
 cases e:own' b with
 |none=>rfl
 |some o=>
  rcases hw.ext.new b o e with e'|e'
  ·rw[hn]at e';cases e'
  ·omega
theorem E0.went{X:Bv->Prop}{w w':World}{own own':Au}{base tb sb:Nat}{nd:List Nat}{mv lv:Value}(h:E0 w own base tb sb nd mv lv)(hw:AI X own w own' w')(hne:¬X (3,sb)):E0 w' own' base tb sb nd mv lv:=
 h.only hw.only hw.ext (fun q e hS=>by
  obtain⟨o,ho,hc⟩:=hS;rw[e]at ho
  injection ho with ho
  subst ho
  exact hne hc)
theorem KP(sb:Nat):¬IK (3,sb):=by rintro(h|h)<;>simp at h
end
section
open Go.RowKit Go.WideMaps Go.Maps
variable [DecidableEq R3] [DecidableEq A4]
theorem Dn{w:World}{base:Nat}{e:TypeId}{size n:Nat}{lv:Value}{xs:List Value}(h:w.ownsRow base e size lv n xs):Af lv=none:=by obtain⟨ao,cap,rfl⟩:=Al h;rfl
theorem Bs.shape{w:World}{base:Nat}{mv lv:Value}{xs:List R3}(h:Bs w base mv lv xs):mv.ownBlock=none/\Af lv=none:=by
 refine⟨?_,Dn h.1⟩;rcases h.2.2 with⟨rfl,_⟩|⟨r,D,rfl,_⟩<;>rfl
theorem Bg.shape{w:World}{base:Nat}{mv lv:Value}{xs:List A4}(h:Bg w base mv lv xs):mv.ownBlock=none/\Af lv=none:=by
 refine⟨?_,Dn h.1⟩;rcases h.2.2 with⟨rfl,_⟩|⟨r,D,rfl,_⟩<;>rfl
theorem Bt.shape{w:World}{base:Nat}{mv lv:Value}{xs:List Nat}(h:Bt w base mv lv xs):mv.ownBlock=none/\Af lv=none:=by
 refine⟨?_,Dn h.1⟩;rcases h.2.2 with⟨rfl,_⟩|⟨r,D,rfl,_⟩<;>rfl
theorem AY.shape{w:World}{base:Nat}{mv lv:Value}{xs:List B8}(h:AY w base mv lv xs):mv.ownBlock=none/\Af lv=none:=by
 refine⟨?_,Dn h.1⟩;rcases h.2.2 with⟨rfl,_⟩|⟨r,D,rfl,_⟩<;>rfl
structure Dw(own:Au)(base:Nat)(w w':World)(ob o:Bv)(mv' lv':Value):Prop where
 ext:B0 w.heap.size own (Bq own o mv' lv')
 ok:Dd (Bq own o mv' lv') base w'
 om:BF (Bq own o mv' lv') o mv'
 ol:BF (Bq own o mv' lv') o lv'
 only:Ax (fun q=>own q=some ob\/own q=some o) w w'
theorem CR{own:Au}{base:Nat}{w w':World}{b:Nat}{mv lv mv' lv':Value}{ob o:Bv}(hk:Dd own base w)(hf:AV w w' b mv lv mv' lv')(hb:own b=some ob)(hbo:∀s,o=(3,s)->s<w.heap.size)(hm:BF own o mv)(hl:BF own o lv)(hs:mv'.ownBlock=none/\Af lv'=none)(hlt:(∀q,lv'.ownBlock=some q->base<=q/\q<w'.heap.size)/\∀q,Af mv'=some q->base<=q/\q<w'.heap.size):Dw own base w w' ob o mv' lv':=by
 have key:∀q,(Af mv'=some q\/lv'.ownBlock=some q)->own q=some o\/w.heap.size<=q:=by
  rintro q (h|h)
  ·rcases hf.map with e|e
   ·exact .inl (hm q (.inl (e▸h)))
   ·exact .inr (e q h)
  ·rcases hf.row with e|e
   ·exact .inl (hl q (.inr (e▸h)))
   ·exact .inr (e q h)
 refine⟨J3 (fun q o e=>(hk.lt q o e).2) key,⟨?_,Nat.le_trans hk.base hf.only.size,?_⟩,?_,?_,hf.only.mono ?_⟩
 ·intro q o' e;unfold Bq at e
  split at e
  ·rename_i h;rcases h with h|h
   ·exact hlt.2 q h
   ·exact hlt.1 q h
  ·exact⟨(hk.lt q o' e).1,Nat.lt_of_lt_of_le (hk.lt q o' e).2 hf.only.size⟩
 ·intro q s e;unfold Bq at e
  split at e
  ·injection e with e
   exact Nat.lt_of_lt_of_le (hbo s e) hf.only.size
  ·exact Nat.lt_of_lt_of_le (hk.se q s e) hf.only.size
 ·rintro q (h|h)
  ·exact Gx q (.inl h)
  ·rw[hs.1]at h;cases h
 ·rintro q (h|h)
  ·rw[hs.2]at h;cases h
  ·exact Gx q (.inr h)
 ·rintro q (rfl|h|h)
  ·exact .inl hb
  ·exact .inr (hm q (.inl h))
  ·exact .inr (hl q (.inr h))
theorem Dw.same{own:Au}{base:Nat}{w w':World}{o:Bv}{mv' lv':Value}(h:Dw own base w w' o o mv' lv'):Ax (fun q=>own q=some o) w w':=h.only.mono (fun _ e=>e.elim id id)
section
variable {w w':World} {own own':Au} {base tb n:Nat} {V:TV} {D:TD} {qs:List A4} {S:List Aj} {sz:Nat}
theorem Cd.tab(h:Cd w own base tb V D qs S sz){g:Nat}{t u:Aj}(ht:S[g]? =some t)(ho:Ax (fun q=>own q=some (2,g)) w w')(he:B0 n own own')(hk:Dd own' base w'){ru mv lv:Value}(hT:Ef w' own' base D.rules g u ru mv lv)(hb:u.b=t.b):Cd w' own' base tb V D qs (S.set g u) sz:=by
 have z:=fun q (e:own q=some (0,0)) (e':own q=some (2,g))=>(by rw[e]at e';simp at e':False);have f:=fun k q (e:own q=some (1,k)) (e':own q=some (2,g))=>(by rw[e]at e';simp at e':False);have hg:g<S.length:=(List.getElem?_eq_some_iff.1 ht).1
 have hm:(S.set g u).map IN=S.map IN:=by
  rw[List.map_set];apply List.ext_getElem?;intro j;rw[List.getElem?_set]
  split
  ·rename_i e;subst e;rw[List.getElem?_map,ht,if_pos (by simpa using hg)];simp[IN,hb]
  ·rfl
 refine⟨hk,h.blk.only ho (z _ h.ot),h.names.only ho (fun q hq=>f 0 q (h.onl q (.inr hq))) (fun q hq=>f 0 q (h.onm q (.inl hq))),h.consts.only ho (fun q hq=>f 1 q (h.ocl q (.inr hq))) (fun q hq=>f 1 q (h.ocm q (.inl hq))),AU h.rules ho (fun q hq=>f 2 q (h.oru q (.inr hq))),h.qs.only ho (fun q hq=>z q (h.oql q (.inr hq))) (fun q hq=>z q (h.oqm q (.inl hq))),?_,he.keep _ _ h.ot,h.oqm.ext he,h.oql.ext he,h.oli.ext he,h.onm.ext he,h.onl.ext he,h.ocm.ext he,h.ocl.ext he,h.oru.ext he,?_⟩
 ·rw[hm,List.length_set];exact AU h.list ho (fun q hq=>z q (h.oli q (.inr hq)))
 ·intro i x hx;by_cases e:g=i
  ·subst e;rw[List.getElem?_set_self hg]at hx
   injection hx with hx
   subst hx;exact⟨ru,mv,lv,hT⟩
  ·rw[List.getElem?_set_ne e]at hx;obtain⟨ru,mv,lv,hX⟩:=h.tabs i x hx;exact⟨ru,mv,lv,hX.only ho he (fun q k hk e1 e2=>by rw[e1]at e2;rcases hk with rfl|rfl<;>simp at e2;exact e e2.symm)⟩
theorem Cd.addRow(h:Cd w own base tb V D qs S sz){g:Nat}{t:Aj}(ht:S[g]? =some t){ru mv lv mv' lv':Value}(hT:Ef w own base D.rules g t ru mv lv){rows':List R3}(hB:Ag w' t.b [ru,mv',lv',.bool t.fin] 152)(hS:Bs w' base mv' lv' rows')(hf:AV w w' t.b mv lv mv' lv')(hra:∀q,ru.ownBlock=some q->q≠t.b/\Af mv≠some q/\lv.ownBlock≠some q):
 Cd w' (Bq own (2,g) mv' lv') base tb V D qs (S.set g ⟨t.q,t.b,rows',t.fin⟩) sz/\Dw own base w w' (2,g) (2,g) mv' lv':=by
 have ha:=CR h.ok hf hT.ob (fun s e=>by simp at e) hT.omv hT.olv hS.shape hS.lt;refine⟨h.tab ht ha.same ha.ext ha.ok (ru:=ru) (mv:=mv') (lv:=lv') ⟨hB,?_,hS,ha.ext.keep _ _ hT.ob,hT.oru.ext ha.ext,ha.om,ha.ol⟩ rfl,ha⟩;refine AU hT.rules hf.only (fun q hq=>?_);obtain⟨a,b,c⟩:=hra q hq;rintro(e|e|e)
 ·exact a e
 ·exact b e
 ·exact c e
theorem Cd.size(h:Cd w own base tb V D qs S sz)(k:Nat):Cd (w.setCell ⟨tb,10,none⟩ (.int .i64 (k:Nat))) own base tb V D qs S k/\Ax (fun q=>own q=some (0,0)) w (w.setCell ⟨tb,10,none⟩ (.int .i64 (k:Nat))):=by
 have ho:Ax (fun q=>q=tb) w (w.setCell ⟨tb,10,none⟩ (.int .i64 (k:Nat))):=(Ax.of_below (S:=fun q=>q=tb) (Below.refl _ _)).setCell (p:=⟨tb,10,none⟩) (.inl rfl) _;have r:=fun {e:TypeId} {size n:Nat} {v:Value} {xs:List Value} (hx:w.ownsRow base e size v n xs) (ht:110≠e)=>AU hx ho (fun q hq e=>Ah hx h.blk ht (e▸hq));have m:=fun {k:TypeId} {R:Value->Option (DataW Unit×List MemPlace)} {r n:Nat} {D:DataW Unit} (hx:w.ownsMap prog k R r n D)=>Cb hx h.blk;have hb:=h.blk.setCell 10 (.int .i64 (k:Nat))
 have hsS:∀{mv lv:Value} {xs:List B8},AY w base mv lv xs->AY (w.setCell ⟨tb,10,none⟩ (.int .i64 (k:Nat))) base mv lv xs:=by
  intro mv lv xs hx;refine hx.only ho (fun q hq e=>Ah hx.1 h.blk (by decide) (e▸hq)) (fun q hq e=>?_);rcases hx.2.2 with⟨rfl,_⟩|⟨r,D,rfl,_,hw,_⟩
  ·simp[Af]at hq
  ·simp only[Af,Option.some.injEq]at hq;exact m hw (by omega)
 have hsA:∀{mv lv:Value} {xs:List A4},Bg w base mv lv xs->Bg (w.setCell ⟨tb,10,none⟩ (.int .i64 (k:Nat))) base mv lv xs:=by
  intro mv lv xs hx;refine hx.only ho (fun q hq e=>Ah hx.1 h.blk (by decide) (e▸hq)) (fun q hq e=>?_);rcases hx.2.2 with⟨rfl,_⟩|⟨r,D,rfl,_,hw,_⟩
  ·simp[Af]at hq
  ·simp only[Af,Option.some.injEq]at hq;exact m hw (by omega)
 have hs:(w.setCell ⟨tb,10,none⟩ (.int .i64 (k:Nat))).heap.size=w.heap.size:=by simp[World.setCell]
 refine⟨⟨h.ok.below (by omega),hb,hsS h.names,hsS h.consts,r h.rules (by decide),hsA h.qs,r h.list (by decide),h.ot,h.oqm,h.oql,h.oli,h.onm,h.onl,h.ocm,h.ocl,h.oru,?_⟩,ho.mono (fun q e=>e▸h.ot)⟩;intro i t ht;obtain⟨ru,mv,lv,hT⟩:=h.tabs i t ht;exact⟨ru,mv,lv,hT.only ho (.refl 0 own) (fun q k hk e1 e2=>by rw[e2,h.ot]at e1;rcases hk with rfl|rfl<;>simp at e1)⟩
theorem Cd.addQ(h:Cd w own base tb V D qs S sz){qm' ql':Value}{qs':List A4}(hB:Ag w' tb [D.m0,D.m1,V.nm,V.nl,V.cm,V.cl,D.ru,qm',ql',V.li,.int .i64 (sz:Nat)] 110)(hS:Bg w' base qm' ql' qs')(hf:AV w w' tb V.qm V.ql qm' ql')(hli:∀q,V.li.ownBlock=some q->Af V.qm≠some q/\V.ql.ownBlock≠some q):
 Cd w' (Bq own (0,0) qm' ql') base tb ⟨V.nm,V.nl,V.cm,V.cl,qm',ql',V.li⟩ D qs' S sz/\Dw own base w w' (0,0) (0,0) qm' ql':=by
 have ha:=CR h.ok hf h.ot (fun s e=>by simp at e) h.oqm h.oql hS.shape hS.lt;have f:=fun k q (e:own q=some (1,k)) (e':own q=some (0,0))=>(by rw[e]at e';simp at e':False);refine⟨⟨ha.ok,hB,h.names.only ha.same (fun q hq=>f 0 q (h.onl q (.inr hq))) (fun q hq=>f 0 q (h.onm q (.inl hq))),h.consts.only ha.same (fun q hq=>f 1 q (h.ocl q (.inr hq))) (fun q hq=>f 1 q (h.ocm q (.inl hq))),AU h.rules ha.same (fun q hq=>f 2 q (h.oru q (.inr hq))),hS,?_,ha.ext.keep _ _ h.ot,ha.om,ha.ol,h.oli.ext ha.ext,h.onm.ext ha.ext,h.onl.ext ha.ext,h.ocm.ext ha.ext,h.ocl.ext ha.ext,h.oru.ext ha.ext,?_⟩,ha⟩
 ·refine AU h.list hf.only (fun q hq=>?_);obtain⟨b,c⟩:=hli q hq;rintro(e|e|e)
  ·exact Ah h.list h.blk (by decide) (e▸hq)
  ·exact b e
  ·exact c e
 ·intro i t ht;obtain⟨ru,mv,lv,hT⟩:=h.tabs i t ht;exact⟨ru,mv,lv,hT.only ha.same ha.ext (fun q k hk e1 e2=>by rw[e1]at e2;rcases hk with rfl|rfl<;>simp at e2)⟩
theorem Cd.push(h:Cd w own base tb V D qs S sz){li':Value}{u:Aj}(hB:Ag w' tb [D.m0,D.m1,V.nm,V.nl,V.cm,V.cl,D.ru,V.qm,V.ql,li',.int .i64 (sz:Nat)] 110)(hL:w'.ownsRow base 144 1 li' (S.length+1) ((S++[u]).map IN))(ho:Ax (fun q=>own q=some (0,0)) w w')(hqs:Bg w' base V.qm V.ql qs)(he:B0 n own own')(hk:Dd own' base w')(hol:BF own' (0,0) li'){ru mv lv:Value}(hT:Ef w' own' base D.rules S.length u ru mv lv):
 Cd w' own' base tb ⟨V.nm,V.nl,V.cm,V.cl,V.qm,V.ql,li'⟩ D qs (S++[u]) sz:=by
 have f:=fun k q (e:own q=some (1,k)) (e':own q=some (0,0))=>(by rw[e]at e';simp at e':False);refine⟨hk,hB,h.names.only ho (fun q hq=>f 0 q (h.onl q (.inr hq))) (fun q hq=>f 0 q (h.onm q (.inl hq))),h.consts.only ho (fun q hq=>f 1 q (h.ocl q (.inr hq))) (fun q hq=>f 1 q (h.ocm q (.inl hq))),AU h.rules ho (fun q hq=>f 2 q (h.oru q (.inr hq))),hqs,by simpa using hL,he.keep _ _ h.ot,h.oqm.ext he,h.oql.ext he,hol,h.onm.ext he,h.onl.ext he,h.ocm.ext he,h.ocl.ext he,h.oru.ext he,?_⟩;intro i t ht;by_cases hi:i<S.length
 ·rw[List.getElem?_append_left hi]at ht;obtain⟨ru,mv,lv,hT⟩:=h.tabs i t ht;exact⟨ru,mv,lv,hT.only ho he (fun q k hk e1 e2=>by rw[e1]at e2;rcases hk with rfl|rfl<;>simp at e2)⟩
 ·have hi':i=S.length:=by have:=(List.getElem?_eq_some_iff.1 ht).1;simp at this;omega
  subst hi';rw[List.getElem?_append_right (Nat.le_refl _)]at ht;simp at ht;subst ht;exact⟨ru,mv,lv,hT⟩
def B7(own:Au)(k nb:Nat)(v li:Value):Au:=fun q=>if q=nb then some (2,k) else if v.ownBlock=some q then some (4,k) else if li.ownBlock=some q then some (0,0) else own q
structure Ot(own:Au)(base:Nat)(w w':World)(k nb:Nat)(v li:Value):Prop where
 ext:B0 w.heap.size own (B7 own k nb v li)
 ok:Dd (B7 own k nb v li) base w'
 ob:B7 own k nb v li nb=some (2,k)
 ov:BF (B7 own k nb v li) (4,k) v
 ol:BF (B7 own k nb v li) (0,0) li
theorem Mq{own:Au}{base:Nat}{w w':World}{k nb:Nat}{v li:Value}(hk:Dd own base w)(hs:w.heap.size<=w'.heap.size)(hnb:w.heap.size<=nb/\nb<w'.heap.size)(hv:∀q,v.ownBlock=some q->w.heap.size<=q/\q<w'.heap.size)(hvm:Af v=none)(hvn:v.ownBlock≠some nb)(hl:∀q,li.ownBlock=some q->base<=q/\q<w'.heap.size)(hlm:Af li=none)(hlo:∀q,li.ownBlock=some q->own q=some (0,0)\/w.heap.size<=q)(hne:∀q,li.ownBlock=some q->q≠nb/\v.ownBlock≠some q):Ot own base w w' k nb v li:=by
 have hb:=hk.base;refine⟨⟨?_,?_⟩,⟨?_,Nat.le_trans hb hs,?_⟩,?_,?_,?_⟩
 ·intro q o e;have hlt:=(hk.lt q o e).2;unfold B7;rw[if_neg (by omega),if_neg (fun h=>by have:=(hv q h).1;omega)]
  split
  ·rename_i h;rcases hlo q h with h1|h1
   ·rw[<-h1,e]
   ·omega
  ·exact e
 ·intro q o e;unfold B7 at e
  split at e
  ·exact .inr (by omega)
  ·split at e
   ·rename_i h;exact .inr (hv q h).1
   ·split at e
    ·rename_i h;rcases hlo q h with h1|h1
     ·exact .inl (by rw[h1,e])
     ·exact .inr h1
    ·exact .inl e
 ·intro q o e;unfold B7 at e
  split at e
  ·omega
  ·split at e
   ·rename_i h;have:=hv q h;omega
   ·split at e
    ·rename_i h;exact hl q h
    ·have:=hk.lt q o e;omega
 ·intro q s e;unfold B7 at e
  split at e
  ·simp at e
  ·split at e
   ·simp at e
   ·split at e
    ·simp at e
    ·have:=hk.se q s e;omega
 ·unfold B7;rw[if_pos rfl]
 ·rintro q (h|h)
  ·rw[hvm]at h;cases h
  ·unfold B7;rw[if_neg (fun(e:q=nb)=>hvn (e▸h)),if_pos h]
 ·rintro q (h|h)
  ·rw[hlm]at h;cases h
  ·unfold B7;obtain⟨a,b⟩:=hne q h;rw[if_neg a,if_neg b,if_pos h]
theorem E0.add{sb:Nat}{nd nd':List Nat}{mv lv mv' lv':Value}(h:E0 w own base tb sb nd mv lv)(hk:Dd own base w)(hB:Ag w' sb [.pointer (some ⟨tb,0,none⟩),mv',lv'] 182)(hS:Bt w' base mv' lv' nd')(hf:AV w w' sb mv lv mv' lv'):
 E0 w' (Bq own (3,sb) mv' lv') base tb sb nd' mv' lv'/\Dw own base w w' (3,sb) (3,sb) mv' lv':=by
 have ha:=CR hk hf h.ob (fun s e=>by injection e with _ e;subst e;exact hk.se sb _ h.ob) h.omv h.olv hS.shape hS.lt;exact⟨⟨hB,hS,ha.ext.keep _ _ h.ob,ha.om,ha.ol⟩,ha⟩
theorem Cd.addS(h:Cd w own base tb V D qs S sz){sb:Nat}{mv' lv':Value}(ha:Dw own base w w' (3,sb) (3,sb) mv' lv'):Cd w' (Bq own (3,sb) mv' lv') base tb V D qs S sz:=
 h.only ha.same ha.ext ha.ok (fun _ o e hn _ e'=>by rw[e]at e';injection e' with e';subst e';exact hn rfl)
end
theorem AI.add{X:Bv->Prop}{own:Au}{base:Nat}{w w':World}{ob o:Bv}{mv' lv':Value}(ha:Dw own base w w' ob o mv' lv')(hb:X ob)(hc:X o):AI X own w (Bq own o mv' lv') w':=
 ⟨ha.only.mono (fun _ e=>by rcases e with e|e;exact⟨ob,e,hb⟩;exact⟨o,e,hc⟩),ha.ext⟩
theorem AI.one{X:Bv->Prop}{own:Au}{w w':World}{o:Bv}(h:Ax (fun q=>own q=some o) w w')(hc:X o):AI X own w own w':=
 ⟨h.mono (fun _ e=>⟨o,e,hc⟩),.refl _ _⟩
theorem Ef.apart{w:World}{own:Au}{base i:Nat}{rules:List Bm}{t:Aj}{ru mv lv:Value}(h:Ef w own base rules i t ru mv lv):∀q,ru.ownBlock=some q->q≠t.b/\Af mv≠some q/\lv.ownBlock≠some q:=by
 intro q hq;refine⟨fun e=>Ah h.rules h.blk (by decide) (e▸hq),fun e=>?_,fun e=>?_⟩
 ·rcases h.rows.2.2 with⟨rfl,_⟩|⟨r,D,rfl,_,hw,_⟩
  ·simp[Af]at e
  ·simp only[Af,Option.some.injEq]at e;exact DC hw h.rules (e▸hq)
 ·rcases CX h.rules h.rows.1 (by decide) with h1|h1
  ·rw[h1]at hq;cases hq
  ·exact h1 (hq.trans e.symm)
theorem Cd.apart{w:World}{own:Au}{base tb:Nat}{V:TV}{D:TD}{qs:List A4}{S:List Aj}{sz:Nat}(h:Cd w own base tb V D qs S sz):∀q,V.li.ownBlock=some q->Af V.qm≠some q/\V.ql.ownBlock≠some q:=by
 intro q hq;refine⟨fun e=>?_,fun e=>?_⟩
 ·rcases h.qs.2.2 with⟨e',_⟩|⟨r,D,e',_,hw,_⟩
  ·rw[e']at e;simp[Af]at e
  ·rw[e']at e;simp only[Af,Option.some.injEq]at e;exact DC hw h.list (e▸hq)
 ·rcases CX h.list h.qs.1 (by decide) with h1|h1
  ·rw[h1]at hq;cases hq
  ·exact h1 (hq.trans e.symm)
end
section
attribute [local go_sem] Ai Ae
open Go.RowKit Go.WideMaps Go.Maps
variable [DecidableEq R3] [DecidableEq A4]
structure F4(M:Int->R3->Prop)(lay:Int->Nat)(N C:Nat)(D:TD):Prop where
 st:Ea D.rules M
 ro:Di lay N C D.rules
 li:PN N C
 nr:D.rules.length<=1000
def Tb(base tb:Nat)(D:TD)(w:World)(own:Au)(S:List Aj):Prop:=∃V,Cd w own base tb V D (S.map Aj.q) S (AD S)
structure Sr(M:Int->R3->Prop)(lay:Int->Nat)(N C base tb:Nat)(D:TD)(sb l:Nat)(w:World)(own:Au)(S:List Aj)(nd:List Nat):Prop where
 t:Tb base tb D w own S
 s:∃mv lv,E0 w own base tb sb nd mv lv
 inv:E5 M N C S
 nn:nd.Nodup
 nd:∀i∈nd,∃t,S[i]? =some t/\lay t.q.n<=l
structure L4(N C:Nat)(a:A4):Prop where
 n:0<=a.n/\a.n<N
 r:∀y,a.r.Has y->y<C
theorem L4.kind{N C:Nat}{a:A4}(h:L4 N C a):∀y,a.r.kind.Has y-> -3<=y/\y<C:=by
 intro y hy;rcases MI hy with⟨h1,h2⟩|⟨h1,h2⟩
 ·omega
 ·exact⟨by omega,h.r y h2⟩
theorem L4.wf{N C:Nat}{a:A4}(h:L4 N C a)(hL:PN N C):(A4.mk a.n a.r.kind).Wf:=by have hn:=hL.n;have hc:=hL.c;have k:=h.kind;have k0:=k _ (.inl rfl);have k1:=k _ (.inr (.inl rfl));have k2:=k _ (.inr (.inr rfl));have:=h.n;exact⟨⟨by show _<=a.n;omega,by show a.n<=_;omega⟩,⟨⟨by show _<=a.r.kind.a;omega,by show a.r.kind.a<=_;omega⟩,⟨by show _<=a.r.kind.b;omega,by show a.r.kind.b<=_;omega⟩,⟨by show _<=a.r.kind.c;omega,by show a.r.kind.c<=_;omega⟩⟩⟩
def Eg:Prop:=∀(w:World) (base tb:Nat) (ao:Option Addr) (cap:Nat) (rules:List Bm) (q:A4),w.cell? ⟨tb,6,none⟩=some (.slice ao rules.length cap)->w.ownsRow base 118 22 (.slice ao rules.length cap) rules.length (rules.flatMap Aa)->rules.length<=1000->(∀r∈rules,r.Wf)->
 Calls prog 144 #[.pointer (some ⟨tb,0,none⟩),.agg #[.int .i64 q.n,.int .i64 q.r.a,.int .i64 q.r.b,.int .i64 q.r.c]] w fun e w'=>∃v,e=.returned v/\w'.ownsRow w.heap.size 118 22 v (BE rules q).length ((BE rules q).flatMap Aa)/\Below w.heap.size w w'
theorem O6:(prog.info? 144).map (fun i=>(i.zero,i.size,i.bytes))=some (some (.pointer none),1,8):=by kernel_rfl
theorem Pl{S:List Aj}{q:A4}(h:q∈S.map Aj.q):∃t,S[AR (S.map Aj.q) q]? =some t/\t.q=q:=by
 unfold AR;rw[if_pos h];have hl:=List.idxOf_lt_length_iff.2 h;have h1:(S.map Aj.q)[(S.map Aj.q).idxOf q]? =some q:=by rw[List.getElem?_eq_getElem hl];simp
 rw[List.getElem?_map]at h1;obtain⟨t,h2,h3⟩:=Option.map_eq_some_iff.1 h1;exact⟨t,h2,h3⟩
theorem K3(hcut:Eg){M:Int->R3->Prop}{lay:Int->Nat}{N C base tb:Nat}{D:TD}(hX:F4 M lay N C D)(w:World)(own:Au)(S:List Aj)(hT:Tb base tb D w own S)(hI:E5 M N C S)(a:A4)(ha:L4 N C a):
 Calls prog 120 #[.pointer (some ⟨tb,0,none⟩),.agg #[.int .i64 a.n,.int .i64 a.r.a,.int .i64 a.r.b,.int .i64 a.r.c]] w fun e w'=>∃(own':Au) (S':List Aj) (i:Nat) (t:Aj),e=.returned (.int .i64 (i:Nat))/\Tb base tb D w' own' S'/\E5 M N C S'/\S'[i]? =some t/\t.q=⟨a.n,a.r.kind⟩/\BK S S'/\AD S'=AD S/\AI IK own w own' w':=by
 obtain⟨V,hT⟩:=hT;have hQ0:=Ag.new w (Ba a) 115;have hB0:=Ac w (.cells #[.int .i64 a.n,.int .i64 a.r.a,.int .i64 a.r.b,.int .i64 a.r.c] 115);go_enter func120,ntmps120;go_upto_region 2 with(go_at_call 142;refine(O3 _ a.r).mono ?_;rintro e w1 ⟨rfl,hB1⟩;have hQ1:=hQ0.below hB1;have fQ1:=hQ1.frozen;have y0:w1.cell? ⟨w.heap.size,0,none⟩=some (.int .i64 a.n):=hQ1.cell 0;have y1:w1.cell? ⟨w.heap.size,1,none⟩=some (.int .i64 a.r.a):=hQ1.cell 1;have y2:w1.cell? ⟨w.heap.size,2,none⟩=some (.int .i64 a.r.b):=hQ1.cell 2;have y3:w1.cell? ⟨w.heap.size,3,none⟩=some (.int .i64 a.r.c):=hQ1.cell 3)
 have hQ2:Ag (((w1.setCell ⟨w.heap.size,1,none⟩ (.int .i64 a.r.kind.a)).setCell ⟨w.heap.size,2,none⟩ (.int .i64 a.r.kind.b)).setCell ⟨w.heap.size,3,none⟩ (.int .i64 a.r.kind.c)) w.heap.size (Ba ⟨a.n,a.r.kind⟩) 115:=((hQ1.setCell 1 _).setCell 2 _).setCell 3 _;have hB2:Below w.heap.size w (((w1.setCell ⟨w.heap.size,1,none⟩ (.int .i64 a.r.kind.a)).setCell ⟨w.heap.size,2,none⟩ (.int .i64 a.r.kind.b)).setCell ⟨w.heap.size,3,none⟩ (.int .i64 a.r.kind.c)):=(((hB0.trans (hB1.mono hB0.size)).setCell (p:=⟨w.heap.size,1,none⟩) (Nat.le_refl _) _).setCell (p:=⟨w.heap.size,2,none⟩) (Nat.le_refl _) _).setCell (p:=⟨w.heap.size,3,none⟩) (Nat.le_refl _) _;generalize (((w1.setCell ⟨w.heap.size,1,none⟩ (.int .i64 a.r.kind.a)).setCell ⟨w.heap.size,2,none⟩ (.int .i64 a.r.kind.b)).setCell ⟨w.heap.size,3,none⟩ (.int .i64 a.r.kind.c))=w2 at*;clear hQ0 hB0 hQ1 hB1 fQ1 y0 y1 y2 y3 w1;have hT2:=hT.below hB2;have hlq:=Cn hI;have hwf:=ha.wf hX.li;have hLq:=hX.li.q;have y0:w2.cell? ⟨w.heap.size,0,none⟩=some (.int .i64 a.n):=hQ2.cell 0;have y1:w2.cell? ⟨w.heap.size,1,none⟩=some (.int .i64 a.r.kind.a):=hQ2.cell 1;have y2:w2.cell? ⟨w.heap.size,2,none⟩=some (.int .i64 a.r.kind.b):=hQ2.cell 2;have y3:w2.cell? ⟨w.heap.size,3,none⟩=some (.int .i64 a.r.kind.c):=hQ2.cell 3;have hl2:=hQ2.lt;have htl:=hT2.blk.lt;have hbw:=hT2.ok.base;have HA:=AJ (Oq w2.drew base tb 7 _ 110 V.qm V.ql (S.map Aj.q) ⟨a.n,a.r.kind⟩ (by exact hT2.blk.drew) rfl rfl (by exact hT2.qs) hwf (by simp;omega) (by decide) (by exact hbw));obtain⟨p,HP⟩:∃p:Nat,Hid (p=AR (A7 (S.map Aj.q) ⟨a.n,a.r.kind⟩) ⟨a.n,a.r.kind⟩):=⟨_,rfl⟩;obtain⟨bb,HB⟩:∃b:Bool,Hid (b=decide (A4.mk a.n a.r.kind∉S.map Aj.q)):=⟨_,rfl⟩;rw[<-HP.out,<-HB.out]at HA
 go_cut [5,6] from 7 to 34 (fun x y wx=>x=.int .i64 (p:Nat)/\y=.bool bb/\∃qm' ql',Ag wx tb [D.m0,D.m1,V.nm,V.nl,V.cm,V.cl,D.ru,qm',ql',V.li,.int .i64 (AD S:Nat)] 110/\Bg wx base qm' ql' (A7 (S.map Aj.q) ⟨a.n,a.r.kind⟩)/\AV w2 wx tb V.qm V.ql qm' ql')
 case first=>
  go_region_with (go_at_call 143;refine(HA.out).mono ?_;rintro e w3 ⟨rfl,qm',ql',hB3,hS3,hF3⟩)
  all_goals go_wp2_with fail
  all_goals go_meet
  all_goals exact⟨rfl,rfl,qm',ql',hB3,hS3,⟨⟨hF3.only.os,hF3.only.tape,hF3.only.output,hF3.only.size,hF3.only.block⟩,hF3.map,hF3.row⟩⟩
 case rest=>
  clear HA;obtain⟨rfl,rfl,qm',ql',hB3,hS3,hF3⟩:=hcut;obtain⟨w3,hw3⟩:∃x:World,x=wc:=⟨wc,rfl⟩;subst hw3;obtain⟨hT3,hA3⟩:=hT2.addQ hB3 hS3 hF3 hT2.apart
  have hQo:own w.heap.size=none:=by
   cases e:own w.heap.size with
   |none=>rfl
   |some o=>exact absurd (hT.ok.lt _ o e).2 (by omega)
  have hW3:AI IK own w (Bq own (0,0) qm' ql') w3:=(AI.below hB2).trans (AI.add hA3 (.inl rfl) (.inl rfl));have hQ3:=hQ2.only hA3.same (by rw[hQo];simp)
  cases bb with
  |false=>
   go_wp2_with fail
   go_ret
   have hm:A4.mk a.n a.r.kind∈S.map Aj.q:=by have:=HB.out;simpa using this.symm
   have e1:A7 (S.map Aj.q) ⟨a.n,a.r.kind⟩=S.map Aj.q:=by unfold A7;rw[if_pos hm]
   rw[e1]at hT3 HP;obtain⟨t,ht,hq⟩:=Pl hm;rw[<-HP.out]at ht;exact⟨_,S,p,t,rfl,⟨_,hT3⟩,hI,ht,hq,.refl S,rfl,hW3⟩
  |true=>
   have hm:A4.mk a.n a.r.kind∉S.map Aj.q:=by have:=HB.out;simpa using this.symm
   have e1:A7 (S.map Aj.q) ⟨a.n,a.r.kind⟩=S.map Aj.q++[⟨a.n,a.r.kind⟩]:=by unfold A7;rw[if_neg hm]
   have e2:p=S.length:=by have:=HP.out;rw[e1,CE _ _ hm]at this;simpa using this
   rw[e1]at hT3;clear HP HB hS3 e1;subst e2;obtain⟨ao,cap,hru⟩:=Al hT3.rules;obtain⟨lo,lc,hli⟩:=Al hT3.list;simp only at hru hli;have c6:w3.cell? ⟨tb,6,none⟩=some (.slice ao D.rules.length cap):=by rw[hB3.cell 6,<-hru];rfl
   have c9:w3.cell? ⟨tb,9,none⟩=some (.slice lo S.length lc):=by rw[hB3.cell 9,<-hli];rfl
   have HC:=AJ (hcut w3.drew base tb ao cap D.rules ⟨a.n,a.r.kind⟩ (by exact c6) (by have:=hT3.rules;simp only[hru]at this;exact this) hX.nr hX.ro.wf);obtain⟨i1,hi1,hy0,hy1,hy2⟩:=info_parts O6;have hl3:=hB3.lt;have hq3:=hQ3.lt;have z0:w3.cell? ⟨w.heap.size,0,none⟩=some (.int .i64 a.n):=hQ3.cell 0;have z1:w3.cell? ⟨w.heap.size,1,none⟩=some (.int .i64 a.r.kind.a):=hQ3.cell 1;have z2:w3.cell? ⟨w.heap.size,2,none⟩=some (.int .i64 a.r.kind.b):=hQ3.cell 2;have z3:w3.cell? ⟨w.heap.size,3,none⟩=some (.int .i64 a.r.kind.c):=hQ3.cell 3;go_upto_region 4 with fail
   go_cut [] from 7 to 34 (fun wx=>∃(v li':Value) (nb:Nat),w3.heap.size<=nb/\Ag wx nb [v,.map none,.slice none 0 0,.bool false] 152/\wx.ownsRow w3.heap.size 118 22 v (BE D.rules ⟨a.n,a.r.kind⟩).length ((BE D.rules ⟨a.n,a.r.kind⟩).flatMap Aa)/\Ag wx tb [D.m0,D.m1,V.nm,V.nl,V.cm,V.cl,D.ru,qm',ql',li',.int .i64 (AD S:Nat)] 110/\
    wx.ownsRow base 144 1 li' (S.length+1) (S.map IN++[.pointer (some ⟨nb,0,none⟩)])/\(li'.ownBlock=V.li.ownBlock\/∀q,li'.ownBlock=some q->w3.heap.size<=q)/\Ax (fun q=>q=tb\/V.li.ownBlock=some q) w3 wx)
   case first=>
    have hLi:w3.ownsRow base 144 1 (.slice lo S.length lc) S.length (S.map IN):=by have:=hT3.list;simp only[hli]at this;exact this
    have hbw3:=hT3.ok.base
    go_region_law (first|(refine Bz _ rfl (.tmp 24) (.tmp 30) 108 rfl base 144 i1 _ 1 8 underlying108 hi1 hy0 hy1 hy2 rfl (by decide) (.slice lo S.length lc) S.length (S.map IN) (by simp[Act.eval]) hL5 ⟨w4.heap.size+1,0,none⟩ 1 1 [.pointer (some ⟨w4.heap.size,0,none⟩)] (by simp[Act.eval]) (by decide) rfl hnews hone (by unfold maxLen;omega) (by omega) hbb ?_;intro g cap2 w6 hL6 hg6 hwh;have hB6:=hBk5.grown hg6 (Ah hL5 hBk5 (by decide));have f6:=hB6.frozen;have g9:w6.cell? ⟨tb,9,none⟩=some V.li:=hB6.cell 9)|(go_simp;go_wp2_with (go_at_call 144;refine(HC.out).mono ?_;rintro e w4 ⟨v,rfl,hv4,hB4⟩;obtain⟨va,vc,rfl⟩:=Al hv4;have hB4':Below w3.heap.size w3 w4:=(Below.refl w3.heap.size w3).drew.trans hB4;have hBk4:=hB3.below hB4';have d9:w4.cell? ⟨tb,9,none⟩=some (.slice lo S.length lc):=((hBk4.cell 9).trans (hB3.cell 9).symm).trans c9;have hs4:=hB4'.size;have hl4:=hBk4.lt;have f9:=hBk4.frozen;have hL5:=((Aq hLi hB4').alloc (.cells #[.slice va (BE D.rules ⟨a.n,a.r.kind⟩).length vc,.map none,.slice none 0 0,.bool false] 152)).alloc (.cells #[.pointer (some ⟨w4.heap.size,0,none⟩)] 144);have hBk5:=(hBk4.alloc (.cells #[.slice va (BE D.rules ⟨a.n,a.r.kind⟩).length vc,.map none,.slice none 0 0,.bool false] 152)).alloc (.cells #[.pointer (some ⟨w4.heap.size,0,none⟩)] 144);have hnews:∀j u,[Value.pointer (some ⟨w4.heap.size,0,none⟩)][j]? =some u->((w4.alloc (.cells #[.slice va (BE D.rules ⟨a.n,a.r.kind⟩).length vc,.map none,.slice none 0 0,.bool false] 152)).alloc (.cells #[.pointer (some ⟨w4.heap.size,0,none⟩)] 144)).cell? ((⟨w4.heap.size+1,0,none⟩:Addr).add j)=some u:=(by have:=AP (w4.alloc (.cells #[.slice va (BE D.rules ⟨a.n,a.r.kind⟩).length vc,.map none,.slice none 0 0,.bool false] 152)) [Value.pointer (some ⟨w4.heap.size,0,none⟩)] 144;simpa using this);have hone:∀u∈[Value.pointer (some ⟨w4.heap.size,0,none⟩)],u.oneCell'=true:=(by intro u hu;simp at hu;subst hu;rfl);have hbb:base<=((w4.alloc (.cells #[.slice va (BE D.rules ⟨a.n,a.r.kind⟩).length vc,.map none,.slice none 0 0,.bool false] 152)).alloc (.cells #[.pointer (some ⟨w4.heap.size,0,none⟩)] 144)).heap.size:=(by simp;omega))))
    all_goals go_wp2_with fail
    all_goals go_meet
    all_goals
     have O5:Ax (fun q=>q=tb\/V.li.ownBlock=some q) ((w4.alloc (.cells #[.slice va (BE D.rules ⟨a.n,a.r.kind⟩).length vc,.map none,.slice none 0 0,.bool false] 152)).alloc (.cells #[.pointer (some ⟨w4.heap.size,0,none⟩)] 144)) (w6.setCell ⟨tb,9,none⟩ (.slice (some ⟨g,0,none⟩) (S.length+1) cap2)):=((Ax.of_below (Below.refl _ _)).grown hg6 (fun q hq=>.inl (.inr (by rw[hli];exact hq)))).setCell (p:=⟨tb,9,none⟩) (.inl (.inl rfl)) _;have hv5:=(hv4.alloc (.cells #[.slice va (BE D.rules ⟨a.n,a.r.kind⟩).length vc,.map none,.slice none 0 0,.bool false] 152)).alloc (.cells #[.pointer (some ⟨w4.heap.size,0,none⟩)] 144);have hN5:=(Ag.new w4 [.slice va (BE D.rules ⟨a.n,a.r.kind⟩).length vc,.map none,.slice none 0 0,.bool false] 152).alloc (.cells #[.pointer (some ⟨w4.heap.size,0,none⟩)] 144);refine⟨.slice va (BE D.rules ⟨a.n,a.r.kind⟩).length vc,.slice (some ⟨g,0,none⟩) (S.length+1) cap2,w4.heap.size,hs4,hN5.only O5 ?_,AU hv5 O5 ?_,hB6.setCell 9 _,AM hL6 ⟨tb,9,none⟩ _ (Ah hL6 hB6 (by decide)),?_,?_⟩
     ·rintro(e|e)
      ·omega
      ·rw[hli]at e;exact Ah hL5 hN5 (by decide) e
     ·intro q hq;rintro(e|e)
      ·exact Ah hv5 hBk5 (by decide) (e▸hq)
      ·rw[hli]at e;rcases CX hv5 hL5 (by decide) with h1|h1
       ·rw[h1]at hq;cases hq
       ·exact h1 (hq.trans e.symm)
     ·rcases hwh with h1|h1
      ·left
       rw[hli,<-h1];rfl
      ·right
       intro q hq;simp[Value.ownBlock]at hq;simp at h1;omega
     ·exact((((Ax.of_below hB4').alloc _).alloc _).grown hg6 (fun q hq=>.inl (.inr (by rw[hli];exact hq)))).setCell (p:=⟨tb,9,none⟩) (.inl (.inl rfl)) _
   case rest=>
    obtain⟨v,li',nb,hnb,hNB,hv,hTB,hL,hlw,hO⟩:=hcut
    have hP:=Mq (k:=S.length) (v:=v) (li:=li') hT3.ok hO.size ⟨hnb,hNB.lt⟩ (fun q hq=>hv.lt q hq) (Dn hv) (Ah hv hNB (by decide)) (fun q hq=>hL.lt q hq) (Dn hL) (fun q hq=>by
     rcases hlw with e|e
     ·exact .inl (hT3.oli q (.inr (e▸hq)))
     ·exact .inr (e q hq)) (fun q hq=>⟨fun e=>Ah hL hNB (by decide) (e▸hq),fun e=>by
      rcases CX hv hL (by decide) with h1|h1
      ·rw[h1]at e;cases e
      ·exact h1 (e.trans hq.symm)⟩)
    have hO':Ax (fun q=>Bq own (0,0) qm' ql' q=some (0,0)) w3 wc:=hO.mono (by
     rintro q (e|e)
     ·rw[e];exact hT3.ot
     ·exact hT3.oli q (.inr e))
    have hqs:=hT3.qs.only hO (fun q hq=>by
     rintro(e|e)
     ·exact Ah hT3.qs.1 hT3.blk (by decide) (e▸hq)
     ·exact(hT3.apart q e).2 hq) (fun q hq=>by
     rintro(e|e)
     ·rcases hT3.qs.2.2 with⟨e',_⟩|⟨r,D,e',_,hw,_⟩
      ·rw[e']at hq;simp[Af]at hq
      ·rw[e']at hq;simp only[Af,Option.some.injEq]at hq;exact Cb hw hT3.blk (by omega)
     ·exact(hT3.apart q e).1 hq)
    have hvb:wc.ownsRow base 118 22 v (BE D.rules ⟨a.n,a.r.kind⟩).length ((BE D.rules ⟨a.n,a.r.kind⟩).flatMap Aa):=C3 hv hT3.ok.base;have hT5:=hT3.push (u:=⟨⟨a.n,a.r.kind⟩,nb,[],false⟩) hTB (by rw[List.map_append];exact hL) hO' hqs hP.ext hP.ok hP.ol (ru:=v) (mv:=.map none) (lv:=.slice none 0 0) ⟨hNB,hvb,Bs.nil _ _,hP.ob,hP.ov,BF.nil_map _ _,BF.nil_slice _ _⟩;go_wp2_with fail
    go_ret
    have hI':=hI.new nb hm (by simpa using ha.n) ha.kind;have hW5:AI IK (Bq own (0,0) qm' ql') w3 (B7 (Bq own (0,0) qm' ql') S.length nb v li') wc:=⟨hO'.mono (fun q e=>⟨_,e,.inl rfl⟩),hP.ext⟩;have hz:AD (S++[⟨⟨a.n,a.r.kind⟩,nb,[],false⟩])=AD S:=JS _ _;rw[show S.map Aj.q++[(⟨a.n,a.r.kind⟩:A4)]=(S++[Aj.mk ⟨a.n,a.r.kind⟩ nb [] false]).map Aj.q by rw[List.map_append];rfl,<-hz]at hT5;exact⟨B7 (Bq own (0,0) qm' ql') S.length nb v li',S++[⟨⟨a.n,a.r.kind⟩,nb,[],false⟩],S.length,rfl,⟨_,hT5⟩,hI',⟨⟨a.n,a.r.kind⟩,nb,[],false⟩,by simp,rfl,BK.snoc _ _,hz,hW3.trans hW5⟩
end
end Go.Proofs.YtpbfiffgcgnidaaGreat
