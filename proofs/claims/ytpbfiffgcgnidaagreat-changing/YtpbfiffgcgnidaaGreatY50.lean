import Derived.Test.YtpbfiffgcgnidaaGreatYal
import Derived.Test.YtpbfiffgcgnidaaGreatY21
import Derived.Test.YtpbfiffgcgnidaaGreatY35
import Derived.Test.YtpbfiffgcgnidaaGreatY46
import Derived.Test.YtpbfiffgcgnidaaGreatY49
namespace Go.Proofs.YtpbfiffgcgnidaaGreat
set_option maxRecDepth 100000
set_option maxHeartbeats 4000000
set_option linter.unusedSectionVars false
set_option linter.unusedSimpArgs false
open Go.Proofs.Tryz
section
open Go.RowKit
def readsQ(s:B8)(n:B8)(ts:List B8):Bool:=
 (atomR s0 s).ok&&((skipL (atomR s0 s).rest).isEmpty&&(decide ((atomR s0 s).name=n)&&decide ((atomR s0 s).ts=ts)))
theorem q_reads{s n:B8}{ts:List B8}(h:readsQ s n ts=true):(qAtom (bs s)).ok=true/\(skipL (qAtom (bs s)).rest).isEmpty=true/\(qAtom (bs s)).name=n/\(qAtom (bs s)).ts=ts:=by unfold readsQ at h;simp only[Bool.and_eq_true,decide_eq_true_eq]at h;unfold qAtom;rw[bs_data,atomR_ok _ s0,atomR_rest _ s0,atomR_name _ s0,atomR_ts _ s0];exact⟨h.1,h.2.1,h.2.2.1,h.2.2.2⟩
def pairsK(c:Cor):List (B8×Nat):=(atomsK c).map fun a=>(a.1,a.2.length)
theorem counts_cor(D:List ClD):countsR D=cntGo ([],[]) ((D.map ClD.cor).flatMap pairsK):=by unfold countsR;rw[List.flatMap_map];rfl
def knowS(st:List B8×List Nat)(k:B8)(n:Nat):Bool:=hasW st.1 k&&decide (nAt st.2 (posIn st.1 k)=(n:Int))
theorem cnt_map(ar:B8->Nat):∀(l:List (B8×Nat)) (xs:List B8),(∀a∈l,a.2=ar a.1)->∃ys,cntGo (xs,xs.map ar) l=(ys,ys.map ar)/\∀k,k∈ys↔k∈xs\/∃a∈l,a.1=k:=by
 intro l
 induction l with
 |nil=>intro xs _;exact⟨xs,rfl,fun k=>by simp⟩
 |cons a l ih=>
  intro xs h;have ha:=h a (by simp);have hl:=fun b hb=>h b (List.mem_cons_of_mem _ hb);by_cases hx:hasW xs a.1=true
  ·obtain⟨ys,e,hy⟩:=ih xs hl;refine⟨ys,?_,fun k=>?_⟩
   ·rw[<-e];unfold cntGo;rw[List.foldl_cons];congr 1;unfold cntStep;rw[if_pos hx]
   ·rw[hy];have:a.1∈xs:=List.contains_iff_mem.1 hx;constructor
    ·rintro(h1|⟨b,hb,e⟩)
     ·exact .inl h1
     ·exact .inr ⟨b,List.mem_cons_of_mem _ hb,e⟩
    ·rintro(h1|⟨b,hb,e⟩)
     ·exact .inl h1
     ·rcases List.mem_cons.1 hb with rfl|hb
      ·exact .inl (e▸this)
      ·exact .inr ⟨b,hb,e⟩
  ·obtain⟨ys,e,hy⟩:=ih (xs++[a.1]) hl;refine⟨ys,?_,fun k=>?_⟩
   ·rw[<-e];unfold cntGo;rw[List.foldl_cons];congr 1;unfold cntStep;rw[if_neg hx,List.map_append,ha];rfl
   ·rw[hy,List.mem_append];constructor
    ·rintro((h1|h1)|⟨b,hb,e⟩)
     ·exact .inl h1
     ·rw[List.mem_singleton]at h1;exact .inr ⟨a,by simp,h1.symm⟩
     ·exact .inr ⟨b,List.mem_cons_of_mem _ hb,e⟩
    ·rintro(h1|⟨b,hb,e2⟩)
     ·exact .inl (.inl h1)
     ·rcases List.mem_cons.1 hb with rfl|hb
      ·exact .inl (.inr (List.mem_singleton.2 e2.symm))
      ·exact .inr ⟨b,hb,e2⟩
theorem know_map(ar:B8->Nat)(ys:List B8)(k:B8)(hk:k∈ys):knowS (ys,ys.map ar) k (ar k)=true:=by unfold knowS;have h1:hasW ys k=true:=List.contains_iff_mem.2 hk;rw[Bool.and_eq_true];refine⟨h1,decide_eq_true ?_⟩;unfold nAt posIn;have hl:=List.idxOf_lt_length_of_mem hk;simp only[if_pos hk];rw[List.getD_eq_getElem?_getD,List.getElem?_map,List.getElem?_eq_getElem hl,List.getElem_idxOf];rfl
theorem knows_name{q:List Bool}{v:Nat}(hv:v<4){D:List ClD}(h:GivenD q v D)(k:B8)(hk:k=edgeB\/k=pathB\/k=apartB\/k=outB\/k=sinkB\/k=loneB):knowS (countsR D) k (arP k)=true:=by
 have har:∀c,c∈D.map ClD.cor->∀a∈pairsK c,a.2=arP a.1:=by
  have hr:∀v,v<4->∀c∈ruCor v,∀a∈pairsK c,a.2=arP a.1:=by decide+kernel
  intro c hc a ha;rcases List.mem_append.1 (h.mem_iff.1 hc) with h1|h1
  ·obtain⟨p,_,rfl⟩:=List.mem_map.1 h1;have ha':a∈[(edgeB,2)]:=ha;rw[List.mem_singleton]at ha';subst ha';rfl
  ·exact hr v hv c h1 a ha
 obtain⟨ys,e,hy⟩:=cnt_map arP ((D.map ClD.cor).flatMap pairsK) [] (by
  intro a ha;obtain⟨c,hc,ha⟩:=List.mem_flatMap.1 ha
  exact har c hc a ha)
 rw[counts_cor];have e':cntGo ([],[]) ((D.map ClD.cor).flatMap pairsK)=(ys,ys.map arP):=e;rw[e'];apply know_map;rw[hy];have hm:k∈[edgeB,pathB,apartB,outB,sinkB,loneB]:=by simpa using hk
 have key:∀v,v<4->∀k∈[edgeB,pathB,apartB,outB,sinkB,loneB],∃c∈ruCor v,∃a∈pairsK c,a.1=k:=by decide+kernel
 obtain⟨c,hc,a,ha,e⟩:=key v hv k hm;exact .inr ⟨a,List.mem_flatMap.2 ⟨c,h.mem_iff.2 (List.mem_append.2 (.inr hc)),ha⟩,e⟩
theorem readG(w:World)(base bb:Nat)(D:List ClD)(hI:BaseIs w base bb D)(hW:∀d∈D,d.WF)(hn:D.length<=40){q:List Bool}{v:Nat}(hv:v<4)(hG:GivenD q v D)(s an:B8)(ats:List B8)(hs:s.length<=2000)(hr:readsQ s an ats=true)(hk:an=edgeB\/an=pathB\/an=apartB\/an=outB\/an=sinkB\/an=loneB)(har:ats.length=arP an):
 ∃s0 s1 s2 s3 s4:Int,Hid (∀W:World,Below w.heap.size w W->Calls prog 37 #[.pointer (some ⟨bb,0,none⟩),.string (bs s)] W fun e w'=>e=.returned (.tuple #[.agg #[.string (bs an),.int .i64 (ats.length:Nat),.string (bs (padW ats 0)),.string (bs (padW ats 1)),.string (bs (padW ats 2))],.agg #[.int .i64 s0,.int .i64 s1,.int .i64 s2,.int .i64 s3,.int .i64 s4],.int .i64 0,.int .i64 0])/\Below W.heap.size W w'):=by
 obtain⟨hok,hend,hnm,hts⟩:=q_reads hr;have hkn:=knows_name hv hG an hk;unfold knowS at hkn;rw[Bool.and_eq_true,decide_eq_true_eq]at hkn;refine⟨((0:Nat):Int),((qAtom (bs s)).np:Nat),((qAtom (bs s)).ps.getD 0 0:Nat),((qAtom (bs s)).ps.getD 1 0:Nat),((qAtom (bs s)).ps.getD 2 0:Nat),?_⟩;intro W hB
 have:=question_ok W base bb D (by obtain⟨u,h1,h2⟩:=hI;exact⟨u,h1.below hB,h2.below hB⟩) hW hn (bs s) hs hok hend (by rw[hnm];exact hkn.1) (by rw[hnm,hts,har];exact hkn.2) (by
  rw[hnm]
  rcases hk with rfl|rfl|rfl|rfl|rfl|rfl<;>decide)
 rw[hnm,hts]at this;exact this
end
section
open Go.RowKit
variable [DecidableEq R3] [DecidableEq A4]
def Says(base bb:Nat)(D:List ClD)(s:B8)(L:List B8):Prop:=
 ∀(U:World) (b2:Nat) (a2:Option Addr) (c2:Nat),BaseIs U base bb D->U.ownsRow b2 9 1 (.slice a2 L.length c2) L.length (strs L)->
  Calls prog 15 #[.pointer (some ⟨bb,0,none⟩),.string (bs s),.slice a2 L.length c2] U fun e w'=>e=.returned (.bool true)/\Below U.heap.size U w'
section
variable {base bb:Nat} {D:List ClD} (hW:∀d∈D,d.WF) (hn:D.length<=40) {q:List Bool} {v:Nat} (hv:v<4) (hG:GivenD q v D)
theorem says_of(hW:∀d∈D,d.WF)(hn:D.length<=40){q:List Bool}{v:Nat}(hv:v<4)(hG:GivenD q v D)(s an:B8)(ats:List B8)(hs:s.length<=2000)(hr:readsQ s an ats=true)(hk:an=edgeB\/an=pathB\/an=apartB\/an=outB\/an=sinkB\/an=loneB)(har:ats.length=arP an)(hts:∀i,(padW ats i).length<=12)
 (n:Nat)(hn16:n<=16)(P:Nat->Bool)(F:Nat->BA)(hm:∀b,(holdG D b/\∃s,b=(an,putsT s ats))↔ ∃j,j<n/\P j=true/\b=F j)(hF:∀j,j<n->∀t∈(F j).2,t.length<=12)(hso:(List.range n).Pairwise (fun i j=>shownA (F i)<shownA (F j)))
 (L:List B8)(hL:L=((List.range n).filter P).map fun j=>shownA (F j)):Says base bb D s L:=by
 intro U b2 a2 c2 hI ho;have hLn:L.length<=1000:=by rw[hL,List.length_map];refine Nat.le_trans (List.length_filter_le _ _) ?_;rw[List.length_range];omega
 refine says_c U bb b2 (bs s) a2 c2 L ho hLn ?_;intro W hB;have hI':BaseIs W base bb D:=by obtain⟨u,h1,h2⟩:=hI;exact⟨u,h1.below hB,h2.below hB⟩
 obtain⟨s0,s1,s2,s3,s4,HR⟩:=readG W base bb D hI' hW hn hv hG s an ats hs hr hk har;refine askG W base bb D hI' hW hn hv hG (bs s) an ats ?_ hts ?_ har s0 s1 s2 s3 s4 n hn16 P F hm hF hso L hL HR
 ·rcases hk with rfl|rfl|rfl|rfl|rfl|rfl<;>decide
 ·rw[har];unfold arP
  split<;>omega
end
def qFrom(k:Nat):B8:=pathB++([40]++nodeB k++[44,88,41])
def qAll:B8:=pathB++[40,88,44,89,41]
theorem node_short(k:Nat):(nodeB k).length<=12:=by simp[nodeB]
theorem pad_short(ats:List B8)(h:∀t∈ats,t.length<=12)(i:Nat):(padW ats i).length<=12:=by
 unfold padW;rw[List.getD_eq_getElem?_getD]
 cases hi:ats[i]? with
 |none=>simp
 |some t=>exact h t (List.mem_of_getElem? hi)
section
variable {base bb:Nat} {D:List ClD} {q o:List Bool} {v:Nat}
theorem says_from(hW:∀d∈D,d.WF)(hn:D.length<=40)(hv:v<4)(hG:GivenD q v D)(ho:∀i k,i<4->k<4->(gOf o i k=true↔Leads (gOf q) i k))(k:Nat)(hk:k<4):Says base bb D (qFrom k) (colN pathB o k false 4):=by
 have hM:=hG.model hv ho;refine says_of hW hn hv hG (qFrom k) pathB [nodeB k,vX] (by simp[qFrom,pathB,nodeB]) ?_ (.inr (.inl rfl)) rfl (pad_short _ (by intro t ht;simp only[List.mem_cons,List.not_mem_nil,or_false]at ht;rcases ht with rfl|rfl<;>simp[nodeB,vX])) 4 (by omega) (fun j=>gOf o k j) (fun j=>(pathB,[nodeB k,nodeB j])) (two_from hM.path rfl k hk) ?_ ?_ _ (col_list pathB o k)
 ·exact four' (P:=fun k=>readsQ (qFrom k) pathB [nodeB k,vX]=true) (by decide+kernel) (by decide+kernel) (by decide+kernel) (by decide+kernel) k hk
 ·intro j _ t ht;simp only[List.mem_cons,List.not_mem_nil,or_false]at ht;rcases ht with rfl|rfl<;>exact node_short _
 ·exact four' (P:=fun k=>(List.range 4).Pairwise (fun i j=>shownA (pathB,[nodeB k,nodeB i])<shownA (pathB,[nodeB k,nodeB j]))) (by decide+kernel) (by decide+kernel) (by decide+kernel) (by decide+kernel) k hk
theorem says_all(hW:∀d∈D,d.WF)(hn:D.length<=40)(hv:v<4)(hG:GivenD q v D)(ho:∀i k,i<4->k<4->(gOf o i k=true↔Leads (gOf q) i k)):Says base bb D qAll (factsN pathB o 16):=by
 have hM:=hG.model hv ho;refine says_of hW hn hv hG qAll pathB [vX,vY] (by decide) (by decide+kernel) (.inr (.inl rfl)) rfl (pad_short _ (by decide)) 16 (by omega) (fun j=>gOf o (j / 4) (j%4)) (fun j=>(pathB,[nodeB (j / 4),nodeB (j%4)])) (two_all hM.path rfl rfl (by decide)) ?_ (by decide+kernel) _ (facts_list pathB o);intro j _ t ht;simp only[List.mem_cons,List.not_mem_nil,or_false]at ht;rcases ht with rfl|rfl<;>exact node_short _
theorem anyG_iff(q:List Bool)(i:Nat):anyG q i 4=true↔ ∃k,k<4/\gOf q i k=true:=by
 unfold anyG;rw[List.any_eq_true];constructor
 ·rintro⟨k,hk,h⟩;exact⟨k,List.mem_range.1 hk,h⟩
 ·rintro⟨k,hk,h⟩;exact⟨k,List.mem_range.2 hk,h⟩
end
end
end Go.Proofs.YtpbfiffgcgnidaaGreat
