import Derived.Test.YtpbfiffgcgnidaaGreatYal
import Derived.Test.YtpbfiffgcgnidaaGreatY26
import Derived.Test.YtpbfiffgcgnidaaGreatY47
import Derived.Test.YtpbfiffgcgnidaaGreatY52
namespace Go.Proofs.YtpbfiffgcgnidaaGreat
set_option maxRecDepth 100000
set_option maxHeartbeats 4000000
set_option linter.unusedSectionVars false
set_option linter.unusedSimpArgs false
open Go.Proofs.Tryz
section
theorem idxGo_any(an:B8)(ats:List B8)(k:Nat)(ds:List ClD):decide (0<=idxGo an ats k ds)=ds.any (matchB an ats):=by
 induction ds generalizing k with
 |nil=>rfl
 |cons d r ih=>
  rw[idxGo,List.any_cons];cases hm:matchB an ats d
  ·rw[if_neg (by simp),ih];rfl
  ·rw[if_pos rfl];simp
theorem idx_any(an:B8)(ats:List B8)(ds:List ClD):decide (0<=idx an ats ds)=ds.any (matchB an ats):=idxGo_any an ats 0 ds
def matchK(an:B8)(ats:List B8)(c:Cor):Bool:=isFactB c.2.2.length c.2.1&&sameB c.1 an c.2.1 ats
theorem node_same:∀i k:Nat,i<4->k<4->nodeB i=nodeB k->i=k:=by intro i k hi hk;exact small_cases (P:=fun i k=>nodeB i=nodeB k->i=k) (by decide+kernel) i k hi hk
theorem factC_match(p r:Nat×Nat)(hp:p.1<4/\p.2<4)(hr:r.1<4/\r.2<4):matchK edgeB [nodeB p.1,nodeB p.2] (factC r).cor=decide (r=p):=by
 have h1:isFactB (factC r).cor.2.2.length (factC r).cor.2.1=true:=small_cases (P:=fun i k=>isFactB (factC (i,k)).cor.2.2.length (factC (i,k)).cor.2.1=true) (by decide+kernel) r.1 r.2 hr.1 hr.2;unfold matchK sameB;rw[h1,Bool.true_and];have h2:decide ((factC r).cor.1=edgeB)=true:=rfl;rw[h2,Bool.true_and];apply decide_eq_decide.2;constructor
 ·intro h;have h3:[nodeB r.1,nodeB r.2]=[nodeB p.1,nodeB p.2]:=h
  injection h3 with h3 h4
  injection h4 with h4 _
  exact Prod.ext (node_same _ _ hr.1 hp.1 h3) (node_same _ _ hr.2 hp.2 h4)
 ·intro h;rw[h];rfl
theorem ru_noedge:∀v,v<4->∀c∈ruCor v,(isFactB c.2.2.length c.2.1&&decide (c.1=edgeB))=false:=by decide+kernel
theorem ru_nomatch(v:Nat)(hv:v<4)(ats:List B8)(c:Cor)(hc:c∈ruCor v):matchK edgeB ats c=false:=by have h:=ru_noedge v hv c hc;unfold matchK sameB;rw[<-Bool.and_assoc,h];rfl
theorem fv_nodes(i k:Nat)(hi:i<4)(hk:k<4):fv [nodeB i,nodeB k]= -1:=small_cases (P:=fun i k=>fv [nodeB i,nodeB k]= -1) (by decide+kernel) i k hi hk
theorem factC_wf(p:Nat×Nat):(factC p).WF:=by
 refine⟨rfl,Nat.zero_le _,?_,?_⟩
 ·intro a ha;simp[ClD.atoms,factC]at ha;subst ha;simp[edgeB,nodeB]
 ·intro x hx;simp[factC]at hx;subst hx;decide
theorem reads_f(i k:Nat)(hi:i<4)(hk:k<4):readsQ (factB i k) edgeB [nodeB i,nodeB k]=true:=small_cases (P:=fun i k=>readsQ (factB i k) edgeB [nodeB i,nodeB k]=true) (by decide+kernel) i k hi hk
theorem qAt_set(q:List Bool)(hq:q.length=16)(j:Nat)(hj:j<16)(b:Bool)(x:Nat):qAt (q.set j b) x=if x=j then b else qAt q x:=by
 unfold qAt;rw[List.getD_eq_getElem?_getD,List.getElem?_set,List.getD_eq_getElem?_getD];by_cases h:j=x
 ·subst h;rw[if_pos rfl,if_pos rfl,if_pos (by omega)];rfl
 ·rw[if_neg h,if_neg (fun e=>h e.symm)]
theorem pair_eq{x j:Nat}:(x / 4,x%4)=(j / 4,j%4)↔x=j:=by rw[Prod.mk.injEq];omega
theorem pairs_on(q:List Bool)(hq:q.length=16)(j:Nat)(hj:j<16)(h:qAt q j=false):(pairsOf (q.set j true)).Perm ((j / 4,j%4)::pairsOf q):=by
 have hn:(List.range 16).Nodup:=List.nodup_range
 have key:((List.range 16).filter (qAt (q.set j true))).Perm (j::(List.range 16).filter (qAt q)):=by
  refine(List.perm_ext_iff_of_nodup (hn.filter _) ?_).2 ?_
  ·rw[List.nodup_cons];refine⟨fun hm=>?_,hn.filter _⟩;rw[(List.mem_filter.1 hm).2]at h;simp at h
  ·intro x;rw[List.mem_filter,List.mem_cons,List.mem_filter,qAt_set q hq j hj];by_cases e:x=j
   ·simp[e,hj]
   ·simp[e]
 exact key.map fun j=>(j / 4,j%4)
theorem pairs_off(q:List Bool)(hq:q.length=16)(j:Nat)(hj:j<16):(pairsOf q).filter (fun p=> !decide (p=(j / 4,j%4)))=pairsOf (q.set j false):=by unfold pairsOf;rw[List.filter_map,List.filter_filter];congr 1;apply List.filter_congr;intro x _;rw[qAt_set q hq j hj];simp only[Function.comp,pair_eq];by_cases e:x=j<;>simp[e]
section
variable {q:List Bool} {v:Nat} {D:List ClD}
theorem GivenD.few(hv:v<4)(h:GivenD q v D):D.length<=28:=by
 have h1:=h.length_eq;have h2:=pairs_len q;have h3:∀v,v<4->(ruCor v).length<=12:=by decide
 have h4:=h3 v hv;rw[List.length_map,List.length_append,List.length_map]at h1;omega
theorem GivenD.more(h:GivenD q v D)(hq:q.length=16)(j:Nat)(hj:j<16)(h0:qAt q j=false):GivenD (q.set j true) v (D++[factC (j / 4,j%4)]):=by unfold GivenD at*;rw[List.map_append];refine(h.append_right _).trans (List.perm_append_comm.trans ?_);rw[<-List.append_assoc];exact List.Perm.append_right (ruCor v) ((pairs_on q hq j hj h0).map (fun p=>(factC p).cor)).symm
theorem match_cor(an:B8)(ats:List B8)(D:List ClD):(D.filter fun d=> !matchB an ats d).map ClD.cor=(D.map ClD.cor).filter fun c=> !matchK an ats c:=by rw[List.filter_map];rfl
theorem GivenD.less(hv:v<4)(h:GivenD q v D)(hq:q.length=16)(j:Nat)(hj:j<16):GivenD (q.set j false) v (D.filter fun d=> !matchB edgeB [nodeB (j / 4),nodeB (j%4)] d):=by
 unfold GivenD at*;rw[match_cor];refine(h.filter _).trans (List.Perm.of_eq ?_);rw[List.filter_append,<-pairs_off q hq j hj];congr 1
 ·rw[List.filter_map];congr 1;apply List.filter_congr;intro p hp;simp only[Function.comp];have:=factC_match (j / 4,j%4) p ⟨by simp only[];omega,by simp only[];omega⟩ (pairs_small q p hp);simp only[]at this;rw[this]
 ·rw[List.filter_eq_self];intro c hc;rw[ru_nomatch v hv _ c hc];rfl
theorem GivenD.found(hv:v<4)(h:GivenD q v D)(j:Nat)(hj:j<16):D.any (matchB edgeB [nodeB (j / 4),nodeB (j%4)])=qAt q j:=by
 have e1:D.any (matchB edgeB [nodeB (j / 4),nodeB (j%4)])=(D.map ClD.cor).any (matchK edgeB [nodeB (j / 4),nodeB (j%4)]):=by rw[List.any_map];rfl
 rw[e1]
 have key:(D.map ClD.cor).any (matchK edgeB [nodeB (j / 4),nodeB (j%4)])=true↔qAt q j=true:=by
  rw[List.any_eq_true];have h4:(j / 4,j%4).1<4/\(j / 4,j%4).2<4:=⟨by simp only[];omega,by simp only[];omega⟩;constructor
  ·rintro⟨c,hc,hm⟩;rcases List.mem_append.1 (h.mem_iff.1 hc) with hc|hc
   ·obtain⟨p,hp,rfl⟩:=List.mem_map.1 hc;have:=factC_match (j / 4,j%4) p h4 (pairs_small q p hp);simp only[]at this;rw[this,decide_eq_true_eq]at hm;subst hm;have:=(mem_pairs q (j / 4) (j%4) h4.1 h4.2).1 hp;unfold gOf at this
    rwa [show 4*(j / 4)+j%4=j by omega]at this
   ·rw[ru_nomatch v hv _ c hc]at hm;simp at hm
  ·intro hx
   have hp:(j / 4,j%4)∈pairsOf q:=by
    refine(mem_pairs q (j / 4) (j%4) h4.1 h4.2).2 ?_;unfold gOf
    rwa [show 4*(j / 4)+j%4=j by omega]
   refine⟨(factC (j / 4,j%4)).cor,h.mem_iff.2 (List.mem_append.2 (.inl (List.mem_map.2 ⟨_,hp,rfl⟩))),?_⟩;have:=factC_match (j / 4,j%4) (j / 4,j%4) h4 h4;simp only[]at this;rw[this];simp
 cases hx:qAt q j
 ·rw[hx]at key;simpa using key
 ·rw[hx]at key;simpa using key
end
theorem rules_given(v:Nat):givenT (List.replicate 16 false) v=rulesT v:=by
 unfold givenT;have:factsTo (List.replicate 16 false) 16=[]:=by decide
 rw[this];rfl
end
section
attribute [local go_sem] drewN_alloc drewN_setCell
open Go.RowKit Go.WideMaps Go.Maps
theorem load_yes2(w:World)(s:ByteArray)(hs:s.size<=maxLen)(h:loadE s=(0,0)):
 Calls prog 22 #[.string s] w fun e w'=>∃bb,e=.returned (.tuple #[.pointer (some ⟨bb,0,none⟩),.int .i64 0,.int .i64 0])/\w.heap.size<=bb/\BaseIs w' w.heap.size bb (programR s).cls/\Below w.heap.size w w':=by
 refine(load_c w s hs).mono ?_;intro e w' hp;unfold LoadPost at hp;rw[h,if_pos rfl]at hp;obtain⟨⟨bb,he,hb,hI⟩,hB⟩:=hp;exact⟨bb,he,hb,hI,hB⟩
theorem loaded_b(w:World)(s:ByteArray)(hs:s.size<=maxLen)(h:loadE s=(0,0)):
 Calls prog 9 #[.string s] w fun e w'=>∃bb,e=.returned (.pointer (some ⟨bb,0,none⟩))/\w.heap.size<=bb/\BaseIs w' w.heap.size bb (programR s).cls/\Below w.heap.size w w':=by
 have HL:=hid (fun W=>load_yes2 W s hs h);clear h;go_enter func9,ntmps9;go_wp2_with fail;refine(HL.out _).mono ?_;rintro e w1 ⟨bb,rfl,hb,hI,hB1⟩;clear HL;go_wp2_with fail;refine(load_p _).mono ?_;rintro e w2 ⟨rfl,hB2⟩;go_wp2_with fail
 go_ret
 exact⟨bb,rfl,hb,hI.below hB2,hB1.trans (hB2.mono hB1.size)⟩
def BOff(w:World)(base bb g:Nat)(D:List ClD):Prop:=∃v,Blk w bb [v] 51/\ClausesIs w base v D/\v.ownBlock≠some g
theorem BOff.base{w:World}{base bb g:Nat}{D:List ClD}(h:BOff w base bb g D):BaseIs w base bb D:=by obtain⟨v,h1,h2,_⟩:=h;exact⟨v,h1,h2⟩
theorem BOff.below{w w':World}{base bb g:Nat}{D:List ClD}(h:BOff w base bb g D)(hB:Below w.heap.size w w'):BOff w' base bb g D:=by obtain⟨v,h1,h2,h3⟩:=h;exact⟨v,h1.below hB,h2.below hB,h3⟩
theorem BOff.of{w:World}{base bb:Nat}{D:List ClD}(h:BaseIs w base bb D)(o:Obj):BOff (w.alloc o) base bb w.heap.size D:=by obtain⟨v,h1,h2⟩:=h;refine⟨v,h1.alloc o,h2.below (below_alloc w o),fun e=>?_⟩;obtain⟨rows,ho,_,_⟩:=h2;have:=(ho.lt _ e).2;omega
theorem ClausesIs.off{w:World}{base:Nat}{v:Value}{D:List ClD}(h:ClausesIs w base v D):∀k,v.ownBlock=some k->base<=k:=by obtain⟨rows,ho,_,_⟩:=h;exact own_base ho
section
variable {base bb:Nat} {D:List ClD} {q:List Bool} {v:Nat}
theorem reads_edge(hW:∀d∈D,d.WF)(hn:D.length<=40)(hv:v<4)(hG:GivenD q v D)(i k:Nat)(hi:i<4)(hk:k<4):Reads base bb D (bs (factB i k)) edgeB [nodeB i,nodeB k]:=by obtain⟨q1,q2,q3,q4⟩:=q_reads (reads_f i k hi hk);have hkn:=knows_name hv hG edgeB (.inl rfl);unfold knowS at hkn;rw[Bool.and_eq_true,decide_eq_true_eq]at hkn;intro W hI;have h:=readFact_ok W base bb D hI hW hn (bs (factB i k)) (by rw[bs_size'];simp[factB,nodeB]) q1 q2 (by rw[q3];exact hkn.1) (by rw[q3,q4];exact hkn.2) (by rw[q3];decide) (by rw[q4];exact fv_nodes i k hi hk) (by rw[q4];simp);rw[q3,q4]at h;exact h
theorem asked_edge(hW:∀d∈D,d.WF)(hn:D.length<=40)(hv:v<4)(hG:GivenD q v D)(j:Nat)(hj:j<16):Asked base bb D (bs (factB (j / 4) (j%4))) (qAt q j) (bs edgeB) (bs (nodeB (j / 4))) (bs (nodeB (j%4))) (bs []) (2:Nat):=by have h:=asked base bb D hW hn _ edgeB [nodeB (j / 4),nodeB (j%4)] (reads_edge (base:=base) (bb:=bb) hW hn hv hG (j / 4) (j%4) (by omega) (by omega));rw[idx_any,hG.found hv j hj]at h;exact h
theorem assert_edge(w:World)(g:Nat)(hb:BOff w base bb g D)(hbase:base<=bb)(hgb:bb≠g)(hg:g<w.heap.size)(hW:∀d∈D,d.WF)(hn:D.length<=28)(hv:v<4)(hG:GivenD q v D)(j:Nat)(hj:j<16)(h0:qAt q j=false):
 Calls prog 19 #[.pointer (some ⟨bb,0,none⟩),.string (bs (factB (j / 4) (j%4)))] w fun e w'=>e=.returned (.tuple #[.int .i64 0,.int .i64 0])/\BOff w' base bb g (D++[factC (j / 4,j%4)])/\Only (fun k=>base<=k/\k≠g) w w':=by
 obtain⟨u,h1,h2,h3⟩:=hb;have hA:=asked_edge (base:=base) (bb:=bb) hW (by omega) hv hG j hj;rw[h0]at hA;have hbl:=h1.lt;refine(assert_more2 w base bb u D h1 h2 (by omega) _ _ _ _ _ _ (by omega) (factC (j / 4,j%4)) rfl rfl hA).mono ?_;rintro e w' ⟨rfl,⟨u',k1,k2,k3⟩,hO⟩;refine⟨rfl,⟨u',k1,k2,fun e=>?_⟩,hO.mono ?_⟩
 ·rcases k3 with k3|k3
  ·exact h3 (k3▸e)
  ·have:=k3 g e;omega
 ·rintro k (rfl|hk)
  ·exact⟨hbase,hgb⟩
  ·exact⟨h2.off k hk,fun e=>h3 (e▸hk)⟩
theorem retract_edge(w:World)(g:Nat)(hb:BOff w base bb g D)(hbase:base<=bb)(hgb:bb≠g)(hg:g<w.heap.size)(hW:∀d∈D,d.WF)(hn:D.length<=28)(hv:v<4)(hG:GivenD q v D)(j:Nat)(hj:j<16)(h0:qAt q j=true):
 Calls prog 18 #[.pointer (some ⟨bb,0,none⟩),.string (bs (factB (j / 4) (j%4)))] w fun e w'=>e=.returned (.tuple #[.int .i64 0,.int .i64 0])/\BOff w' base bb g (D.filter fun d=> !matchB edgeB [nodeB (j / 4),nodeB (j%4)] d)/\Only (fun k=>base<=k/\k≠g) w w':=by
 obtain⟨u,h1,h2,h3⟩:=hb;have hA:=asked_edge (base:=base) (bb:=bb) hW (by omega) hv hG j hj;have hpos:0<=idx edgeB [nodeB (j / 4),nodeB (j%4)] D:=by have:=idx_any edgeB [nodeB (j / 4),nodeB (j%4)] D;rw[hG.found hv j hj,h0]at this;exact of_decide_eq_true this
 rw[h0]at hA;have hbl:=h1.lt;refine(retract_some2 w base bb u D (D.filter fun d=> !matchB edgeB [nodeB (j / 4),nodeB (j%4)] d) h1 h2 (by omega) _ _ _ _ _ _ hA ?_).mono ?_
 ·intro W ao cap B hC hB
  have hlen:0<D.length:=by
   cases hcs:D with
   |nil=>rw[hcs]at hpos;simp[idx,idxGo]at hpos
   |cons d r=>simp
  obtain⟨g,bo,bcap,hao,_⟩:=clause_at hC 0 hlen;subst hao;refine(delete_c W base g cap D hC hW (by omega) B edgeB [nodeB (j / 4),nodeB (j%4)] hB hpos).mono ?_;rintro e w' ⟨m,rfl,h1,h2⟩;exact⟨m,rfl,h1,h2.mono (fun k hk=>by rw[hk];rfl)⟩
 ·rintro e w' ⟨rfl,⟨u',k1,k2,k3⟩,hO⟩;refine⟨rfl,⟨u',k1,k2,fun e=>?_⟩,hO.mono ?_⟩
  ·rcases k3 with k3|k3
   ·exact h3 (k3▸e)
   ·have:=k3 g e;omega
  ·rintro k (rfl|hk)
   ·exact⟨hbase,hgb⟩
   ·exact⟨h2.off k hk,fun e=>h3 (e▸hk)⟩
end
end
section
attribute [local go_sem] drewN_alloc drewN_setCell
open Go.RowKit Go.WideMaps Go.Maps
variable [DecidableEq R3] [DecidableEq A4]
theorem BOff.set{w:World}{base bb g:Nat}{D:List ClD}(h:BOff w base bb g D){q:List Bool}(hg:Blk w g (gCells q) 25)(hgb:bb≠g)(o:Nat)(x:Value):BOff (w.setCell ⟨g,o,none⟩ x) base bb g D:=by obtain⟨v,h1,h2,h3⟩:=h;exact⟨v,h1.setOther ⟨g,o,none⟩ x (fun e=>hgb e),h2.set hg (by decide) (by decide) o x,h3⟩
theorem BOff.drew{w:World}{base bb g:Nat}{D:List ClD}(h:BOff w base bb g D):BOff w.drew base bb g D:=h.below (Below.refl _ _).drew
theorem graph_set{w:World}{g:Nat}{q:List Bool}(h:Blk w g (gCells q) 25)(j:Nat)(x:Bool):Blk (w.setCell ⟨g,j / 4*4+j%4,none⟩ (.bool x)).drew g (gCells (q.set j x)) 25:=by have:=(h.setCell (j / 4*4+j%4) (.bool x)).drew;rw[show j / 4*4+j%4=j by omega]at this⊢;unfold gCells at*;rw[List.map_set];exact this
theorem graph_at{w:World}{g:Nat}{q:List Bool}(h:Blk w g (gCells q) 25)(hq:q.length=16)(j:Nat)(hj:j<16):w.cell? ⟨g,j / 4*4+j%4,none⟩=some (.bool (qAt q j)):=by rw[show j / 4*4+j%4=j by omega,h.cell];simp[gCells,qAt,show j<q.length by omega]
structure Chg(v:Nat)(base bb gb:Nat)(q:List Bool)(D:List ClD)(w:World):Prop where
 len:q.length=16
 given:GivenD q v D
 wf:∀d∈D,d.WF
 off:BOff w base bb gb D
 graph:Blk w gb (gCells q) 25
theorem Chg.below{v base bb gb:Nat}{q:List Bool}{D:List ClD}{w w':World}(h:Chg v base bb gb q D w)(hB:Below w.heap.size w w'):Chg v base bb gb q D w':=⟨h.len,h.given,h.wf,h.off.below hB,h.graph.below hB⟩
theorem Chg.on{v base bb gb:Nat}{q:List Bool}{D:List ClD}{w w':World}(h:Chg v base bb gb q D w)(j:Nat)(hj:j<16)(h0:qAt q j=false)(hb:BOff w' base bb gb (D++[factC (j / 4,j%4)]))(hgb:bb≠gb)(hO:Only (fun k=>base<=k/\k≠gb) w w'):Chg v base bb gb (q.set j true) (D++[factC (j / 4,j%4)]) (w'.setCell ⟨gb,j / 4*4+j%4,none⟩ (.bool true)).drew:=by
 have hg:=h.graph.only hO (fun x=>x.2 rfl);refine⟨by simpa using h.len,h.given.more h.len j hj h0,?_,(hb.set hg hgb _ _).drew,graph_set hg j true⟩;intro d hd;rw[List.mem_append,List.mem_singleton]at hd;rcases hd with hd|rfl
 ·exact h.wf d hd
 ·exact factC_wf _
theorem Chg.gone{v base bb gb:Nat}(hv:v<4){q:List Bool}{D:List ClD}{w w':World}(h:Chg v base bb gb q D w)(j:Nat)(hj:j<16)(hb:BOff w' base bb gb (D.filter fun d=> !matchB edgeB [nodeB (j / 4),nodeB (j%4)] d))(hgb:bb≠gb)(hO:Only (fun k=>base<=k/\k≠gb) w w'):Chg v base bb gb (q.set j false) (D.filter fun d=> !matchB edgeB [nodeB (j / 4),nodeB (j%4)] d) (w'.setCell ⟨gb,j / 4*4+j%4,none⟩ (.bool false)).drew:=by have hg:=h.graph.only hO (fun x=>x.2 rfl);exact⟨by simpa using h.len,h.given.less hv h.len j hj,fun d hd=>h.wf d (List.mem_filter.1 hd).1,(hb.set hg hgb _ _).drew,graph_set hg j false⟩
theorem changing_law(w:World)(ao:Option Addr)(n cap:Nat)(c:Int)(bo:Option Addr)(m bcap:Nat)(hn:n<=maxLen)(hc:Ints w ao n)(hm:m<=maxLen)(hd:Ints w bo m)(h1: -9223372036854775808<=c)(h2:c<=9223372036854775807):
 Calls prog 5 #[.slice ao n cap,.int .i64 c,.slice bo m bcap] w fun e w'=>e=.returned (.bool true)/\Below w.heap.size w w':=by
 have hn':=hn;have hm':=hm;unfold maxLen at hn' hm';have hp:=pickN_lt c 4 (by decide);have hrc:=fun W=>rules_c W c h1 h2;generalize pickN c 4=v at*;have HRC:=hid hrc;clear hrc;obtain⟨hload,hcore⟩:=given_core (List.replicate 16 false) v hp;have hgd:=given_cor hp hcore;have hwf:=programR_wf (bs (givenT (List.replicate 16 false) v));have hgl:=given_len (List.replicate 16 false) v hp;rw[rules_given]at hload hgd hwf hgl;have HL:=hid (fun W=>loaded_b W (bs (rulesT v)) (by rw[bs_size'];unfold maxLen;omega) hload);have HGD:=hid hgd;have HWF:=hid hwf.2;clear hload hcore hgl hgd hwf;generalize (programR (bs (rulesT v))).cls=D0 at*;generalize rulesT v=rt at*;go_enter func5,ntmps5;go_wp2_with fail;refine(HRC.out _).mono ?_;rintro e wx ⟨rfl,hwx⟩;subst wx;go_wp2_with fail;refine(HL.out _).mono ?_;rintro e w1 ⟨bb,rfl,hbb,hI1,hB1⟩;have hbl:bb<w1.heap.size:=by obtain⟨u,k1,_⟩:=hI1;exact k1.lt
 have hgb:bb≠w1.heap.size:=by omega
 clear HL HRC;go_wp2_with fail
 go_loopw [9] (fun iv wr=>∃(i:Nat) (q:List Bool) (D:List ClD),i<=n/\iv=.int .i64 i/\Chg v w.heap.size bb w1.heap.size q D wr/\Below w.heap.size w wr) (fun iv _=>n-(intOf iv).toNat)
 case atStart=>exact⟨0,List.replicate 16 false,D0,by omega,rfl,⟨by simp,HGD.out,HWF.out,BOff.of hI1 _,Blk.new w1 zG 25⟩,hB1.trans ((below_alloc w1 _).mono hB1.size)⟩
 case round=>
  obtain⟨i,q,D,hi,rfl,hC,hB⟩:=hrel;have hsz:=hB.size;have hgl:=hC.graph.lt;have hfew:=hC.given.few hp;by_cases hlt:i<n
  ·obtain⟨b1,off,z,rfl,hb,hz,hz1,hz2⟩:=hc i hlt;rw[<-hB.cell (p:=⟨b1,off+i,none⟩) hb]at hz;have hpj:=pickN_lt z 16 (by decide);have hpc:=fun W=>pick_c z 16 W hz1 hz2 (by decide) (by decide);generalize pickN z 16=j at*;have HPC:=hid hpc;clear hpc;have hk4:j / 4<4:=by omega
   have hk5:j%4<4:=by omega
   have hd1:((j / 4:Nat):Int)=(j:Int) / 4:=by omega
   have hd2:((j%4:Nat):Int)=(j:Int)%4:=by omega
   have HN1:Hid (∀W:World,Calls prog 14 #[.int .i64 ((j:Int) / 4)] W fun e w'=>e=.returned (.string (bs (nodeB (j / 4))))/\w'=W):=by intro W;rw[<-hd1];exact node_c (j / 4) hk4 W
   have HN2:Hid (∀W:World,Calls prog 14 #[.int .i64 ((j:Int)%4)] W fun e w'=>e=.returned (.string (bs (nodeB (j%4))))/\w'=W):=by intro W;rw[<-hd2];exact node_c (j%4) hk5 W
   have hz3:(bs (nodeB (j / 4))).size=1:=rfl;have hz4:(bs (nodeB (j%4))).size=1:=rfl;have HFX:Hid (⟨#[101,100,103,101,40]⟩++bs (nodeB (j / 4))++⟨#[44]⟩++bs (nodeB (j%4))++⟨#[41]⟩=bs (factB (j / 4) (j%4))):=rfl;clear hd1 hd2;have hce:=graph_at hC.graph hC.len j hpj;go_wp2_with fail;refine(HPC.out _).mono ?_;rintro e wx ⟨rfl,hwx⟩;subst wx;go_wp2_with fail;refine(HN1.out _).mono ?_;rintro e wx ⟨rfl,hwx⟩;subst wx;go_wp2_with fail;refine(HN2.out _).mono ?_;rintro e wx ⟨rfl,hwx⟩;subst wx;clear hz HPC HN1 HN2;cases hx:qAt q j
   case' false=>rw[hx]at hce;go_wp2_with fail;rw[HFX.out];refine(assert_edge (base:=w.heap.size) wr w1.heap.size hC.off hbb hgb hgl hC.wf hfew hp hC.given j hpj hx).mono ?_;rintro e w2 ⟨rfl,hO2,hOn⟩;have hC2:=hC.on j hpj hx hO2 hgb hOn;have hce2:=graph_at (hC.graph.only hOn (fun x=>x.2 rfl)) hC.len j hpj;have fG:=(hC.graph.only hOn (fun x=>x.2 rfl)).frozen;rw[hx]at hce2;have hB2:=hB.trans (hOn.below hsz (fun k h=>h.1));have hgl2:=hOn.size;have hB3:=(hB2.setCell (p:=⟨w1.heap.size,j / 4*4+j%4,none⟩) (by simp only[];omega) (.bool true)).drew;clear hO2 hOn hB2;obtain⟨w3,HW3⟩:∃x,Hid ((w2.setCell ⟨w1.heap.size,j / 4*4+j%4,none⟩ (.bool true)).drew=x):=⟨_,rfl⟩;rw[HW3.out]at hC2 hB3;generalize D++[factC (j / 4,j%4)]=D2 at*;generalize q.set j true=q2 at*
   case' true=>rw[hx]at hce;go_wp2_with fail;rw[HFX.out];refine(retract_edge (base:=w.heap.size) wr w1.heap.size hC.off hbb hgb hgl hC.wf hfew hp hC.given j hpj hx).mono ?_;rintro e w2 ⟨rfl,hO2,hOn⟩;have hC2:=hC.gone hp j hpj hO2 hgb hOn;have hce2:=graph_at (hC.graph.only hOn (fun x=>x.2 rfl)) hC.len j hpj;have fG:=(hC.graph.only hOn (fun x=>x.2 rfl)).frozen;rw[hx]at hce2;have hB2:=hB.trans (hOn.below hsz (fun k h=>h.1));have hgl2:=hOn.size;have hB3:=(hB2.setCell (p:=⟨w1.heap.size,j / 4*4+j%4,none⟩) (by simp only[];omega) (.bool false)).drew;clear hO2 hOn hB2;obtain⟨w3,HW3⟩:∃x,Hid ((w2.setCell ⟨w1.heap.size,j / 4*4+j%4,none⟩ (.bool false)).drew=x):=⟨_,rfl⟩;rw[HW3.out]at hC2 hB3;generalize D.filter (fun d=> !matchB edgeB [nodeB (j / 4),nodeB (j%4)] d)=D2 at*;generalize q.set j false=q2 at*
   all_goals
    clear hce hC hB hfew HFX;go_wp2_with fail;go_region;have hgl3:=hC2.graph.lt;clear hce2 fG;rw[HW3.out];clear HW3;by_cases hia:i<m
    ·obtain⟨b2,off2,z2,hbo,hb2,hy,hy1,hy2⟩:=hd i hia;subst hbo;rw[<-hB3.cell (p:=⟨b2,off2+i,none⟩) hb2]at hy;have hpk:=pickN_lt z2 4 (by decide);have hpc:=fun W=>pick_c z2 4 W hy1 hy2 (by decide) (by decide);generalize pickN z2 4=k at*;have HPC:=hid hpc;clear hpc;have hb5:(bs (nodeB k)).size=1:=rfl;have HQ1:=hid (show(⟨#[112,97,116,104,40]⟩:ByteArray)++bs (nodeB k)++⟨#[44,88,41]⟩=bs (qFrom k) by show bs [112,97,116,104,40]++bs (nodeB k)++bs [44,88,41]=_;rw[bs_append,bs_append];rfl);have HSS:Hid (∀w':World,Below w3.heap.size w3 w'->w'.cell? ⟨w1.heap.size,0,none⟩=some (.bool (qAt q2 0))/\w'.cell? ⟨w1.heap.size,1,none⟩=some (.bool (qAt q2 1))/\w'.cell? ⟨w1.heap.size,2,none⟩=some (.bool (qAt q2 2))/\w'.cell? ⟨w1.heap.size,3,none⟩=some (.bool (qAt q2 3))/\w'.cell? ⟨w1.heap.size,4,none⟩=some (.bool (qAt q2 4))/\w'.cell? ⟨w1.heap.size,5,none⟩=some (.bool (qAt q2 5))/\w'.cell? ⟨w1.heap.size,6,none⟩=some (.bool (qAt q2 6))/\w'.cell? ⟨w1.heap.size,7,none⟩=some (.bool (qAt q2 7))/\w'.cell? ⟨w1.heap.size,8,none⟩=some (.bool (qAt q2 8))/\w'.cell? ⟨w1.heap.size,9,none⟩=some (.bool (qAt q2 9))/\w'.cell? ⟨w1.heap.size,10,none⟩=some (.bool (qAt q2 10))/\w'.cell? ⟨w1.heap.size,11,none⟩=some (.bool (qAt q2 11))/\w'.cell? ⟨w1.heap.size,12,none⟩=some (.bool (qAt q2 12))/\w'.cell? ⟨w1.heap.size,13,none⟩=some (.bool (qAt q2 13))/\w'.cell? ⟨w1.heap.size,14,none⟩=some (.bool (qAt q2 14))/\w'.cell? ⟨w1.heap.size,15,none⟩=some (.bool (qAt q2 15))):=by intro W hBW;have h:=hC2.graph.below hBW;rw[gCells_16 q2 hC2.len]at h;exact⟨h.cell 0,h.cell 1,h.cell 2,h.cell 3,h.cell 4,h.cell 5,h.cell 6,h.cell 7,h.cell 8,h.cell 9,h.cell 10,h.cell 11,h.cell 12,h.cell 13,h.cell 14,h.cell 15⟩
     have HPA:Hid (∀W:World,Calls prog 8 #[.agg #[.bool (qAt q2 0),.bool (qAt q2 1),.bool (qAt q2 2),.bool (qAt q2 3),.bool (qAt q2 4),.bool (qAt q2 5),.bool (qAt q2 6),.bool (qAt q2 7),.bool (qAt q2 8),.bool (qAt q2 9),.bool (qAt q2 10),.bool (qAt q2 11),.bool (qAt q2 12),.bool (qAt q2 13),.bool (qAt q2 14),.bool (qAt q2 15)]] W fun e w'=>∃o:List Bool,o.length=16/\e=.returned (.agg (gCells o).toArray)/\(∀i k,i<4->k<4->(gOf o i k=true↔Leads (gOf q2) i k))/\Below W.heap.size W w'):=by intro W;have h:=paths_c W q2 hC2.len;rw[gCells_16 q2 hC2.len]at h;exact h
     have HWF2:=hid hC2.wf;have HGV2:=hid hC2.given;have HBI:=hid (fun(U:World) (h:Below w3.heap.size w3 U)=>(hC2.off.below h).base);have hfew:=Nat.le_trans (hC2.given.few hp) (show 28<=40 by omega);go_wp2_with fail;refine(HPC.out _).mono ?_;rintro e wx ⟨rfl,hwx⟩;subst wx;clear hy HPC;go_wp2_with fail
     go_region_held3 (fun w'=>w'.cell? ⟨w1.heap.size,0,none⟩=some (.bool (qAt q2 0))/\w'.cell? ⟨w1.heap.size,1,none⟩=some (.bool (qAt q2 1))/\w'.cell? ⟨w1.heap.size,2,none⟩=some (.bool (qAt q2 2))/\w'.cell? ⟨w1.heap.size,3,none⟩=some (.bool (qAt q2 3))/\w'.cell? ⟨w1.heap.size,4,none⟩=some (.bool (qAt q2 4))/\w'.cell? ⟨w1.heap.size,5,none⟩=some (.bool (qAt q2 5))/\w'.cell? ⟨w1.heap.size,6,none⟩=some (.bool (qAt q2 6))/\w'.cell? ⟨w1.heap.size,7,none⟩=some (.bool (qAt q2 7))/\w'.cell? ⟨w1.heap.size,8,none⟩=some (.bool (qAt q2 8))/\w'.cell? ⟨w1.heap.size,9,none⟩=some (.bool (qAt q2 9))/\w'.cell? ⟨w1.heap.size,10,none⟩=some (.bool (qAt q2 10))/\w'.cell? ⟨w1.heap.size,11,none⟩=some (.bool (qAt q2 11))/\w'.cell? ⟨w1.heap.size,12,none⟩=some (.bool (qAt q2 12))/\w'.cell? ⟨w1.heap.size,13,none⟩=some (.bool (qAt q2 13))/\w'.cell? ⟨w1.heap.size,14,none⟩=some (.bool (qAt q2 14))/\w'.cell? ⟨w1.heap.size,15,none⟩=some (.bool (qAt q2 15))) (first
      |exact HSS.out _ (Below.refl _ _).drew
      |exact HSS.out _ hBx5
      |exact HSS.out _ hBx6
      |exact HSS.out _ (hBx6.trans (hB7.mono hBx6.size))) (first
      |(go_at_call 14;refine(node_c k hpk _).mono ?_;rintro e wx ⟨rfl,hwx⟩;subst wx)
      |(go_at_call 8;refine(HPA.out _).mono ?_;rintro e w5 ⟨o,ho,rfl,hle,hB5⟩;have hBx5:=(Below.refl w3.heap.size w3).drew.trans (hB5.mono (Nat.le_refl _)))
      |(go_at_call 16;refine(column_c _ o ho pathB (by decide) k hpk false).mono ?_;rintro e w6 ⟨cv,rfl,hc6,hB6⟩;obtain⟨c6,cc6,rfl⟩:=own_form hc6;have hBx6:=hBx5.trans (hB6.mono hBx5.size))
      |(go_at_call 15;rw[HQ1.out];refine(says_from (base:=w.heap.size) (bb:=bb) HWF2.out hfew hp HGV2.out hle k hpk _ _ c6 cc6 (HBI.out _ hBx6) hc6).mono ?_;rintro e w7 ⟨rfl,hB7⟩))
     have hBx7:=hBx6.trans (hB7.mono hBx6.size);have hC7:=hC2.below hBx7;have hB7w:=hB3.trans (hBx7.mono hB3.size);clear hC2 hB3 HSS HPA HWF2 HGV2 HBI hc6 hB5 hB6 hB7 hBx5 hBx6 hBx7;go_wp2_with fail;exact⟨⟨i+1,q2,D2,hlt,by go_num,hC7,hB7w⟩,by simp[intOf];omega⟩
    ·have him:¬((i:Nat):Int)<((m:Nat):Int):=by omega
     go_wp2_with fail;exact⟨⟨i+1,q2,D2,hlt,by go_num,hC2,hB3⟩,by simp[intOf];omega⟩
  ·have hcg:(prog.info? 25).map (fun i=>i.size)=some (gCells q).toArray.size:=by rw[gSize q hC.len];exact infoG
   have hfew40:=Nat.le_trans hfew (show 28<=40 by omega);have HQL:=hid hC.len;have HWF2:=hid hC.wf;have HGV2:=hid hC.given;have HGR:=hid (fun(U:World) (h:Below wr.heap.size wr U)=>hC.graph.below h);have HBI:=hid (fun(U:World) (h:Below wr.heap.size wr U)=>(hC.off.below h).base);have hG0:=hC.graph;clear hC;go_wp2_with (first|(refine wpList_load_row rfl 25 (.tmp 8) rfl w1.heap.size rfl 25 (gCells q).toArray (0,0) _ hG0 underlying25 rfl hcg ?_)|(go_at_call 8;refine(paths_c _ q HQL.out).mono ?_;rintro e w5 ⟨o,ho,rfl,hle,hB5⟩));refine(facts_n _ o ho pathB (by decide)).mono ?_;rintro e w6 ⟨fv,rfl,hf6,hB6⟩;obtain⟨f6,fc6,rfl⟩:=own_form hf6;have hBx6:=hB5.trans (hB6.mono hB5.size);go_wp2_with fail;refine(says_all (base:=w.heap.size) (bb:=bb) HWF2.out hfew40 hp HGV2.out hle _ _ f6 fc6 (HBI.out _ hBx6) hf6).mono ?_;rintro e w7 ⟨rfl,hB7⟩;have hBx7:=hBx6.trans (hB7.mono hBx6.size);have hG7:=HGR.out _ hBx7;clear hf6 hB5 hB6 hB7 hBx6 hG0 hle;go_wp2_with (first|(refine wpList_load_row rfl 25 (.tmp 8) rfl w1.heap.size rfl 25 (gCells q).toArray (0,0) _ hG7 underlying25 rfl hcg ?_)|(go_at_call 8;refine(paths_c _ q HQL.out).mono ?_;rintro e w8 ⟨o2,ho2,rfl,hle2,hB8⟩));refine(column_c _ o2 ho2 apartB (by decide) 0 (by decide) true).mono ?_;rintro e w9 ⟨cv,rfl,hc9,hB9⟩;obtain⟨c9,cc9,rfl⟩:=own_form hc9;have hBx8:=hBx7.trans (hB8.mono hBx7.size);have hBx9:=hBx8.trans (hB9.mono hBx8.size);go_wp2_with fail;refine(says_apart (base:=w.heap.size) (bb:=bb) HWF2.out hfew40 hp HGV2.out hle2 0 (by decide) _ _ c9 cc9 (HBI.out _ hBx9) hc9).mono ?_;rintro e w10 ⟨rfl,hB10⟩;have hBx10:=hBx9.trans (hB10.mono hBx9.size);go_wp2_with fail
   go_ret
   exact⟨rfl,hB.trans (hBx10.mono hB.size)⟩
end
end Go.Proofs.YtpbfiffgcgnidaaGreat
