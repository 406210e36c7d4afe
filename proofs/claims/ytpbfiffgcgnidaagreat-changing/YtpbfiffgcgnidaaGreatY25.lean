import Derived.Test.YtpbfiffgcgnidaaGreatYal
import Derived.Test.YtpbfiffgcgnidaaGreatY11
import Derived.Test.YtpbfiffgcgnidaaGreatY15
namespace Go.Proofs.YtpbfiffgcgnidaaGreat
set_option maxRecDepth 100000
set_option maxHeartbeats 4000000
set_option linter.unusedSimpArgs false
section
abbrev BA:=B8×List B8
def putT(s:B8->B8)(t:B8):B8:=if isVar t=true then s t else t
def putsT(s:B8->B8)(ts:List B8):List B8:=ts.map (putT s)
def LitD.put(l:LitD)(s:B8->B8):BA:=(l.name,putsT s l.ts)
def ClD.put(d:ClD)(s:B8->B8):BA:=(d.name,putsT s d.ts)
def MetD(M:BA->Prop)(d:ClD)(s:B8->B8):Prop:=∀l∈d.lits,(l.neg=false->M (l.put s))/\(l.neg=true->¬M (l.put s))
structure StableD(ds:List ClD)(M:BA->Prop):Prop where
 closed:∀d∈ds,∀s,MetD M d s->M (d.put s)
 least:∀P:BA->Prop,(∀d∈ds,∀s,MetD M d s->(∀l∈d.lits,l.neg=false->P (l.put s))->P (d.put s))->∀a,M a->P a
def LayD(lay:B8->Nat)(ds:List ClD):Prop:=∀d∈ds,∀l∈d.lits,lay l.name+(if l.neg=true then 1 else 0)<=lay d.name
def HL(lay:B8->Nat)(ds:List ClD):Nat->BA->Prop
 |0,_=>False
 |k+1,a=>∀P:BA->Prop,(∀d∈ds,lay d.name<=k->∀s,(∀l∈d.lits,l.neg=true->¬HL lay ds k (l.put s))->(∀l∈d.lits,l.neg=false->P (l.put s))->P (d.put s))->P a
section
variable {lay:B8->Nat} {ds:List ClD}
theorem HL.close{k:Nat}{d:ClD}(hd:d∈ds)(hk:lay d.name<=k)(s:B8->B8)(hn:∀l∈d.lits,l.neg=true->¬HL lay ds k (l.put s))(hp:∀l∈d.lits,l.neg=false->HL lay ds (k+1) (l.put s)):HL lay ds (k+1) (d.put s):=by intro P hP;exact hP d hd hk s hn (fun l hl e=>hp l hl e P hP)
theorem HL.next(hl:LayD lay ds)(k:Nat):∀a:BA,lay a.1<k->(HL lay ds k a↔HL lay ds (k+1) a):=by
 induction k with
 |zero=>intro a h;omega
 |succ k ih=>
  have hneg:∀d∈ds,lay d.name<=k->∀l∈d.lits,l.neg=true->∀s,(HL lay ds k (l.put s)↔HL lay ds (k+1) (l.put s)):=by intro d hd hk l hll e s;have:=hl d hd l hll;rw[if_pos e]at this;exact ih (l.put s) (show lay l.name<k by omega)
  intro a ha;constructor
  ·intro h P hP;refine h P ?_;intro d hd hk s hn hp;exact hP d hd (by omega) s (fun l hll e hx=>hn l hll e ((hneg d hd hk l hll e s).2 hx)) hp
  ·intro h;refine h (fun b=>lay b.1<=k->HL lay ds (k+1) b) ?_ (by omega);intro d hd hk s hn hp hk';have hk'':lay d.name<=k:=hk';refine HL.close hd hk'' s (fun l hll e hx=>hn l hll e ((hneg d hd hk'' l hll e s).1 hx)) (fun l hll e=>hp l hll e ?_);have:=hl d hd l hll;show lay l.name<=k;omega
theorem HL.up(hl:LayD lay ds)(a:BA)(j:Nat):HL lay ds (lay a.1+1+j) a↔HL lay ds (lay a.1+1) a:=by
 induction j with
 |zero=>exact Iff.rfl
 |succ j ih=>exact(HL.next hl (lay a.1+1+j) a (by omega)).symm.trans ih
def HD(lay:B8->Nat)(ds:List ClD)(a:BA):Prop:=HL lay ds (lay a.1+1) a
theorem HD.of{k:Nat}(hl:LayD lay ds)(a:BA)(h:lay a.1<k):HL lay ds k a↔HD lay ds a:=by have:=HL.up hl a (k-(lay a.1+1));rw[show lay a.1+1+(k-(lay a.1+1))=k by omega]at this;exact this
theorem stableD(hl:LayD lay ds):StableD ds (HD lay ds):=by
 have hc:∀d∈ds,∀s,MetD (HD lay ds) d s->HD lay ds (d.put s):=by
  intro d hd s hm;refine HL.close (k:=lay d.name) hd (Nat.le_refl _) s (fun l hll e hx=>?_) (fun l hll e=>?_)
  ·have:=hl d hd l hll;rw[if_pos e]at this;exact(hm l hll).2 e ((HD.of hl (l.put s) (show lay l.name<lay d.name by omega)).1 hx)
  ·have:=hl d hd l hll;exact(HD.of hl (l.put s) (show lay l.name<lay d.name+1 by omega)).2 ((hm l hll).1 e)
 refine⟨hc,fun P hP a ha=>?_⟩
 have:=ha (fun b=>HD lay ds b/\P b) (by
  intro d hd hk s hn hp;have hm:MetD (HD lay ds) d s:=by intro l hll;refine⟨fun e=>(hp l hll e).1,fun e hx=>hn l hll e ?_⟩;have:=hl d hd l hll;rw[if_pos e]at this;exact(HD.of hl (l.put s) (show lay l.name<lay a.1 by omega)).2 hx
  exact⟨hc d hd s hm,hP d hd s hm (fun l hll e=>(hp l hll e).2)⟩)
 exact this.2
end
end
section
def padW(ts:List B8)(i:Nat):B8:=ts.getD i []
theorem isVar_nil:isVar []=false:=rfl
theorem padW_put(s:B8->B8)(ts:List B8)(i:Nat):padW (putsT s ts) i=putT s (padW ts i):=by
 unfold padW putsT;rw[List.getD_eq_getElem?_getD,List.getD_eq_getElem?_getD,List.getElem?_map]
 cases ts[i]? with
 |some t=>rfl
 |none=>simp[putT,isVar_nil]
theorem posG_at{α:Type}[DecidableEq α](xs:List α)(k:α)(h:k∈xs):xs[posG xs k]? =some k:=by unfold posG;rw[if_pos h,List.getElem?_eq_getElem (List.idxOf_lt_length_iff.2 h)];simp
theorem posG_lt{α:Type}[DecidableEq α](xs:List α)(k:α)(h:k∈xs):posG xs k<xs.length:=(List.getElem?_eq_some_iff.1 (posG_at xs k h)).1
theorem posG_of{α:Type}[DecidableEq α]{xs:List α}(hn:xs.Nodup){k:α}{i:Nat}(h:xs[i]? =some k):posG xs k=i:=by have hk:k∈xs:=List.mem_of_getElem? h;have h1:=posG_at xs k hk;obtain⟨a,b⟩:=List.getElem?_eq_some_iff.1 h;obtain⟨c,e⟩:=List.getElem?_eq_some_iff.1 h1;exact(List.getElem_inj hn).1 (e.trans b.symm)
def codeT(cl vs:List B8)(t:B8):Int:=if isVar t=true then-4-(posG vs t:Nat) else(posG cl t:Nat)
def codeR(cl vs:List B8)(ts:List B8):R3:=⟨codeT cl vs (padW ts 0),codeT cl vs (padW ts 1),codeT cl vs (padW ts 2)⟩
def codeA(nm cl vs:List B8)(n:B8)(ts:List B8):A4:=⟨(posG nm n:Nat),codeR cl vs ts⟩
def ClD.sorted(d:ClD):List LitD:=d.lits.filter (fun l=> !l.neg)++d.lits.filter (fun l=>l.neg)
def codeL(nm cl vs:List B8)(L:List LitD)(i:Nat):A4:=match L[i]? with
 |some l=>codeA nm cl vs l.name l.ts
 |none=>zA4
def codeU(nm cl vs:List B8)(d:ClD):RuD:=⟨codeA nm cl vs d.name d.ts,codeL nm cl vs d.sorted 0,codeL nm cl vs d.sorted 1,codeL nm cl vs d.sorted 2,codeL nm cl vs d.sorted 3,(d.lits.filter (fun l=> !l.neg)).length,d.sorted.length⟩
theorem ClD.sorted_len(d:ClD):d.sorted.length=d.lits.length:=by
 unfold ClD.sorted;rw[List.length_append]
 induction d.lits with
 |nil=>rfl
 |cons l r ih=>cases h:l.neg<;>simp[h]<;>omega
theorem ClD.sorted_mem(d:ClD)(l:LitD):l∈d.sorted↔l∈d.lits:=by unfold ClD.sorted;rw[List.mem_append,List.mem_filter,List.mem_filter];cases h:l.neg<;>simp
theorem ClD.sorted_pos(d:ClD)(i:Nat)(l:LitD)(h:d.sorted[i]? =some l):l.neg=decide ((d.lits.filter (fun l=> !l.neg)).length<=i):=by
 unfold ClD.sorted at h;rw[List.getElem?_append]at h
 split at h
 ·have:=List.mem_filter.1 (List.mem_of_getElem? h);rw[decide_eq_false (by omega)];simpa using this.2
 ·have:=List.mem_filter.1 (List.mem_of_getElem? h);rw[decide_eq_true (by omega)];simpa using this.2
theorem codeU_b(nm cl vs:List B8)(d:ClD)(i:Nat)(l:LitD)(h:d.sorted[i]? =some l)(h4:d.lits.length<=4):(codeU nm cl vs d).b i=codeA nm cl vs l.name l.ts:=by
 have hi:=(List.getElem?_eq_some_iff.1 h).1;rw[ClD.sorted_len]at hi;have e:codeL nm cl vs d.sorted i=codeA nm cl vs l.name l.ts:=by unfold codeL;rw[h]
 match i,hi with
 |0,_=>exact e
 |1,_=>exact e
 |2,_=>exact e
 |3,_=>exact e
 |_+4,hi=>omega
structure Words(nm cl:List B8)(ar:B8->Nat)(n:B8)(ts:List B8):Prop where
 name:n∈nm
 len:ts.length<=3
 ar:ts.length=ar n
 consts:∀i,i<3->isVar (padW ts i)=false->padW ts i∈cl
structure CodeOk(ds:List ClD)(nm cl:List B8)(ar:B8->Nat):Prop where
 ndn:nm.Nodup
 ndc:cl.Nodup
 head:∀d∈ds,Words nm cl ar d.name d.ts
 lit:∀d∈ds,∀l∈d.lits,Words nm cl ar l.name l.ts
 four:∀d∈ds,d.lits.length<=4
 safe:∀d∈ds,∀t,isVar t=true->(t∈d.ts\/∃l∈d.lits,l.neg=true/\t∈l.ts)->∃l∈d.lits,l.neg=false/\t∈l.ts
def IsCode(nm cl:List B8)(d:ClD)(r:RuD):Prop:=∃vs,(∀t,isVar t=true->(t∈d.ts\/∃l∈d.lits,t∈l.ts)->t∈vs)/\vs.Nodup/\r=codeU nm cl vs d
structure Dec(nm cl:List B8)(n:Int)(x:R3)(a:BA):Prop where
 n0:0<=n
 n:nm[n.toNat]? =some a.1
 g:x.Ground
 t0:cl[x.a.toNat]? =some (padW a.2 0)
 t1:cl[x.b.toNat]? =some (padW a.2 1)
 t2:cl[x.c.toNat]? =some (padW a.2 2)
theorem codeT_const{cl vs:List B8}{t:B8}(h:isVar t=false):codeT cl vs t=(posG cl t:Nat):=by unfold codeT;rw[if_neg (by simp[h])]
theorem codeT_var{cl vs:List B8}{t:B8}(h:isVar t=true):codeT cl vs t= -4-(posG vs t:Nat):=by unfold codeT;rw[if_pos h]
theorem padW_mem{ts:List B8}{i:Nat}(h:isVar (padW ts i)=true):padW ts i∈ts:=by
 unfold padW at*;rw[List.getD_eq_getElem?_getD]at*
 cases e:ts[i]? with
 |none=>rw[e]at h;simp[isVar_nil]at h
 |some t=>exact List.mem_of_getElem? e
theorem mem_padW{ts:List B8}{t:B8}(h:t∈ts)(hl:ts.length<=3):∃i,i<3/\padW ts i=t:=by obtain⟨i,hi,rfl⟩:=List.getElem_of_mem h;exact⟨i,by omega,by unfold padW;rw[List.getD_eq_getElem?_getD,List.getElem?_eq_getElem hi];rfl⟩
theorem codeR_has{cl vs:List B8}{ts:List B8}{y:Int}:(codeR cl vs ts).Has y↔ ∃i,i<3/\y=codeT cl vs (padW ts i):=by
 unfold R3.Has codeR;constructor
 ·rintro(h|h|h)
  ·exact⟨0,by omega,h⟩
  ·exact⟨1,by omega,h⟩
  ·exact⟨2,by omega,h⟩
 ·rintro⟨i,hi,h⟩
  match i,hi with
  |0,_=>exact .inl h
  |1,_=>exact .inr (.inl h)
  |2,_=>exact .inr (.inr h)
def Val(cl vs:List B8)(σ:Int->Int)(s:B8->B8)(t:B8):Prop:=cl[(σ (codeT cl vs t)).toNat]? =some (putT s t)
theorem dec_of{nm cl vs:List B8}{ar:B8->Nat}{n:B8}{ts:List B8}(hw:Words nm cl ar n ts){σ:Int->Int}(hσ:Grd σ){s:B8->B8}(h:∀i,i<3->Val cl vs σ s (padW ts i)):Dec nm cl (codeA nm cl vs n ts).n ((codeA nm cl vs n ts).r.map σ) (n,putsT s ts):=by
 refine⟨Int.natCast_nonneg _,?_,hσ.ground _,?_,?_,?_⟩
 ·show nm[((posG nm n:Nat):Int).toNat]? =some n;exact posG_at nm n hw.name
 ·show cl[(σ (codeT cl vs (padW ts 0))).toNat]? =some (padW (putsT s ts) 0);rw[padW_put];exact h 0 (by omega)
 ·show cl[(σ (codeT cl vs (padW ts 1))).toNat]? =some (padW (putsT s ts) 1);rw[padW_put];exact h 1 (by omega)
 ·show cl[(σ (codeT cl vs (padW ts 2))).toNat]? =some (padW (putsT s ts) 2);rw[padW_put];exact h 2 (by omega)
theorem val_const{cl vs:List B8}{σ:Int->Int}(hσ:FixC σ)(s:B8->B8){t:B8}(h:isVar t=false)(hm:t∈cl):Val cl vs σ s t:=by unfold Val;rw[codeT_const h,hσ _ (Int.natCast_nonneg _),show putT s t=t by simp[putT,h]];exact posG_at cl t hm
def readS(cl vs:List B8)(σ:Int->Int)(t:B8):B8:=cl.getD (σ (codeT cl vs t)).toNat []
theorem dec_read{nm cl vs:List B8}{ar:B8->Nat}{n:B8}{ts:List B8}(hw:Words nm cl ar n ts){σ:Int->Int}(hσ:Grd σ){a:BA}(hl:a.2.length=ar a.1)(h:Dec nm cl (codeA nm cl vs n ts).n ((codeA nm cl vs n ts).r.map σ) a):a=(n,putsT (readS cl vs σ) ts)/\∀i,i<3->Val cl vs σ (readS cl vs σ) (padW ts i):=by
 have h1:nm[((posG nm n:Nat):Int).toNat]? =some a.1:=h.n;have h2:nm[((posG nm n:Nat):Int).toNat]? =some n:=posG_at nm n hw.name;have e1:a.1=n:=by rw[h1]at h2;injection h2
 have h3:∀i,i<3->cl[(σ (codeT cl vs (padW ts i))).toNat]? =some (padW a.2 i):=by
  intro i hi
  match i,hi with
  |0,_=>exact h.t0
  |1,_=>exact h.t1
  |2,_=>exact h.t2
 have h4:∀i,i<3->padW a.2 i=putT (readS cl vs σ) (padW ts i):=by
  intro i hi;unfold putT
  split
  ·unfold readS;rw[List.getD_eq_getElem?_getD,h3 i hi];rfl
  ·rename_i hv;have hv:isVar (padW ts i)=false:=by simpa using hv
   have h5:=h3 i hi;rw[codeT_const hv,hσ.fix _ (Int.natCast_nonneg _)]at h5;have h6:=posG_at cl _ (hw.consts i hi hv);rw[show(((posG cl (padW ts i):Nat):Int)).toNat=posG cl (padW ts i) from rfl,h6]at h5
   injection h5 with h5
   exact h5.symm
 have e2:a.2=putsT (readS cl vs σ) ts:=by
  have hlen:a.2.length=(putsT (readS cl vs σ) ts).length:=by rw[hl,e1,<-hw.ar];simp[putsT]
  apply List.ext_getElem hlen;intro i hi hi'
  have hi3:i<3:=by
   have:=hw.len;have:(putsT (readS cl vs σ) ts).length=ts.length:=by simp[putsT]
   omega
  have h5:=h4 i hi3;rw[<-padW_put]at h5;unfold padW at h5;rw[List.getD_eq_getElem?_getD,List.getD_eq_getElem?_getD,List.getElem?_eq_getElem hi,List.getElem?_eq_getElem hi']at h5;exact h5
 refine⟨Prod.ext e1 e2,fun i hi=>?_⟩;unfold Val;rw[h3 i hi,h4 i hi]
theorem Dec.same{nm cl:List B8}(hn:nm.Nodup)(hc:cl.Nodup){n n':Int}{x x':R3}{a:BA}(h:Dec nm cl n x a)(h':Dec nm cl n' x' a):n=n'/\x=x':=by have e1:=(posG_of hn h.n).symm.trans (posG_of hn h'.n);have e2:=(posG_of hc h.t0).symm.trans (posG_of hc h'.t0);have e3:=(posG_of hc h.t1).symm.trans (posG_of hc h'.t1);have e4:=(posG_of hc h.t2).symm.trans (posG_of hc h'.t2);have a1:=h.n0;have a2:=h'.n0;have b1:=h.g x.a (.inl rfl);have b2:=h'.g x'.a (.inl rfl);have c1:=h.g x.b (.inr (.inl rfl));have c2:=h'.g x'.b (.inr (.inl rfl));have d1:=h.g x.c (.inr (.inr rfl));have d2:=h'.g x'.c (.inr (.inr rfl));refine⟨by omega,?_⟩;obtain⟨x1,x2,x3⟩:=x;obtain⟨y1,y2,y3⟩:=x';simp only at*;congr 1<;>omega
def CodM(nm cl:List B8)(M:BA->Prop)(n:Int)(x:R3):Prop:=∃a,M a/\Dec nm cl n x a
section
variable {ds:List ClD} {nm cl:List B8} {ar:B8->Nat} {M:BA->Prop}
theorem holdsD_ar(hS:StableD ds M)(hC:CodeOk ds nm cl ar){a:BA}(h:M a):a.2.length=ar a.1:=by refine hS.least (fun a=>a.2.length=ar a.1) ?_ a h;intro d hd s _ _;show(putsT s d.ts).length=ar d.name;rw[<-(hC.head d hd).ar];simp[putsT]
theorem holdsD_words(hS:StableD ds M)(hC:CodeOk ds nm cl ar){a:BA}(h:M a):a.1∈nm/\∀i,i<3->padW a.2 i∈cl:=by
 refine hS.least (fun a=>a.1∈nm/\∀i,i<3->padW a.2 i∈cl) ?_ a h;intro d hd s hm hp;refine⟨(hC.head d hd).name,fun i hi=>?_⟩;show padW (putsT s d.ts) i∈cl;rw[padW_put];unfold putT
 split
 ·rename_i hv;obtain⟨l,hl,hneg,ht⟩:=hC.safe d hd _ hv (.inl (padW_mem hv));obtain⟨j,hj,e⟩:=mem_padW ht (hC.lit d hd l hl).len;have:=(hp l hl hneg).2 j hj;rw[show(l.put s).2=putsT s l.ts from rfl,padW_put,e]at this;simpa[putT,hv]using this
 ·rename_i hv;exact(hC.head d hd).consts i hi (by simpa using hv)
theorem clause_words(hS:StableD ds M)(hC:CodeOk ds nm cl ar){d:ClD}(hd:d∈ds){s:B8->B8}(hp:∀l∈d.lits,l.neg=false->M (l.put s)):∀t,isVar t=true->(t∈d.ts\/∃l∈d.lits,t∈l.ts)->s t∈cl:=by
 intro t hv ht
 have:∃l∈d.lits,l.neg=false/\t∈l.ts:=by
  rcases ht with ht|⟨l,hl,ht⟩
  ·exact hC.safe d hd t hv (.inl ht)
  ·cases e:l.neg with
   |false=>exact⟨l,hl,e,ht⟩
   |true=>exact hC.safe d hd t hv (.inr ⟨l,hl,e,ht⟩)
 obtain⟨l,hl,hneg,ht⟩:=this;obtain⟨j,hj,e⟩:=mem_padW ht (hC.lit d hd l hl).len;have:=(holdsD_words hS hC (hp l hl hneg)).2 j hj;rw[show(l.put s).2=putsT s l.ts from rfl,padW_put,e]at this;simpa[putT,hv]using this
theorem code_met(hS:StableD ds M)(hC:CodeOk ds nm cl ar){d:ClD}(hd:d∈ds){vs:List B8}{σ:Int->Int}(hσ:Grd σ){s:B8->B8}(hv:∀t,isVar t=true->(t∈d.ts\/∃l∈d.lits,t∈l.ts)->Val cl vs σ s t)(hm:MetD M d s):Met (CodM nm cl M) (codeU nm cl vs d) 0 σ:=by
 intro i _ hi;have hi':i<d.sorted.length:=hi;have hs:=List.getElem?_eq_getElem hi';generalize d.sorted[i]=l at hs;have hl:l∈d.lits:=(d.sorted_mem l).1 (List.mem_of_getElem? hs);have hb:=codeU_b nm cl vs d i l hs (hC.four d hd);have hn:=d.sorted_pos i l hs
 have hd':Dec nm cl (codeA nm cl vs l.name l.ts).n ((codeA nm cl vs l.name l.ts).r.map σ) (l.put s):=by
  refine dec_of (hC.lit d hd l hl) hσ (fun i hi=>?_)
  cases e:isVar (padW l.ts i) with
  |true=>exact hv _ e (.inr ⟨l,hl,padW_mem e⟩)
  |false=>exact val_const hσ.fix s e ((hC.lit d hd l hl).consts i hi e)
 rw[hb];refine⟨fun h=>⟨l.put s,(hm l hl).1 (by rw[hn];exact decide_eq_false (by show ¬_<=_;exact Nat.not_le.2 h)),hd'⟩,fun h=>?_⟩;rintro⟨a,ha,hda⟩;have hng:l.neg=true:=by rw[hn];exact decide_eq_true h
 have:a=l.put s:=by
  obtain⟨e1,_⟩:=dec_read (hC.lit d hd l hl) hσ (holdsD_ar hS hC ha) hda
  obtain⟨e2,_⟩:=dec_read (hC.lit d hd l hl) hσ (a:=l.put s) (by
   show(putsT s l.ts).length=ar l.name;rw[<-(hC.lit d hd l hl).ar]
   simp[putsT]) hd'
  rw[e1,e2]
 exact(hm l hl).2 hng (this▸ha)
theorem stable_code(hS:StableD ds M)(hC:CodeOk ds nm cl ar){rules:List RuD}(hc:∀r∈rules,∃d∈ds,IsCode nm cl d r)(hc':∀d∈ds,∃r∈rules,IsCode nm cl d r):Stable rules (CodM nm cl M):=by
 refine⟨?_,?_⟩
 ·intro r hr σ hσ hm;obtain⟨d,hd,vs,hvs,hvn,rfl⟩:=hc r hr;have hlit:∀l∈d.lits,∃i,d.sorted[i]? =some l:=fun l hl=>List.getElem?_of_mem ((d.sorted_mem l).2 hl)
  have hpos:∀l∈d.lits,l.neg=false->M (l.put (readS cl vs σ))/\∀i,i<3->Val cl vs σ (readS cl vs σ) (padW l.ts i):=by
   intro l hl hn;obtain⟨i,hi⟩:=hlit l hl;have hlt:i<d.sorted.length:=(List.getElem?_eq_some_iff.1 hi).1;have hp:=d.sorted_pos i l hi;rw[hn]at hp;have hp:i<(codeU nm cl vs d).pos:=by have:=of_decide_eq_false hp.symm;exact Nat.not_le.1 this
   obtain⟨a,ha,hda⟩:=(hm i (Nat.zero_le _) hlt).1 hp;rw[codeU_b nm cl vs d i l hi (hC.four d hd)]at hda;obtain⟨e,hv⟩:=dec_read (hC.lit d hd l hl) hσ (holdsD_ar hS hC ha) hda;have e:a=l.put (readS cl vs σ):=e;exact⟨e▸ha,hv⟩
  have hval:∀t,isVar t=true->(t∈d.ts\/∃l∈d.lits,t∈l.ts)->Val cl vs σ (readS cl vs σ) t:=by
   intro t hv ht
   have:∃l∈d.lits,l.neg=false/\t∈l.ts:=by
    rcases ht with ht|⟨l,hl,ht⟩
    ·exact hC.safe d hd t hv (.inl ht)
    ·cases e:l.neg with
     |false=>exact⟨l,hl,e,ht⟩
     |true=>exact hC.safe d hd t hv (.inr ⟨l,hl,e,ht⟩)
   obtain⟨l,hl,hn,ht⟩:=this;obtain⟨j,hj,rfl⟩:=mem_padW ht (hC.lit d hd l hl).len;exact(hpos l hl hn).2 j hj
  have hcw:∀(n:B8) (ts:List B8),Words nm cl ar n ts->(∀t,isVar t=true->t∈ts->(t∈d.ts\/∃l∈d.lits,t∈l.ts))->Dec nm cl (codeA nm cl vs n ts).n ((codeA nm cl vs n ts).r.map σ) (n,putsT (readS cl vs σ) ts):=by
   intro n ts hw hin;refine dec_of hw hσ (fun i hi=>?_)
   cases e:isVar (padW ts i) with
   |true=>exact hval _ e (hin _ e (padW_mem e))
   |false=>exact val_const hσ.fix _ e (hw.consts i hi e)
  refine⟨d.put (readS cl vs σ),hS.closed d hd _ ?_,hcw d.name d.ts (hC.head d hd) (fun t _ ht=>.inl ht)⟩;intro l hl;refine⟨fun hn=>(hpos l hl hn).1,fun hn hM=>?_⟩;obtain⟨i,hi⟩:=hlit l hl;have hlt:i<d.sorted.length:=(List.getElem?_eq_some_iff.1 hi).1;have hp:=d.sorted_pos i l hi;rw[hn]at hp;have hp:(codeU nm cl vs d).pos<=i:=of_decide_eq_true hp.symm;refine(hm i (Nat.zero_le _) hlt).2 hp ⟨l.put (readS cl vs σ),hM,?_⟩;rw[codeU_b nm cl vs d i l hi (hC.four d hd)];exact hcw l.name l.ts (hC.lit d hd l hl) (fun t _ ht=>.inr ⟨l,hl,ht⟩)
 ·intro P hP n x ⟨a,ha,hda⟩;refine hS.least (fun a=>∀n x,Dec nm cl n x a->P n x) ?_ a ha n x hda;clear hda ha n x a;intro d hd s hm hp n x hx;obtain⟨r,hr,vs,hvs,hvn,rfl⟩:=hc' d hd
  let σ:Int->Int:=fun v=>if v<0 then(posG cl (s (vs.getD (-4-v).toNat [])):Nat) else v
  have hσ:Grd σ:=⟨fun c hc=>if_neg (by omega),fun v=>by
   show 0<=(if v<0 then((posG cl (s (vs.getD (-4-v).toNat [])):Nat):Int) else v)
   split
   ·exact Int.natCast_nonneg _
   ·omega⟩
  have hw:=clause_words hS hC hd (fun l hl e=>(hm l hl).1 e)
  have hval:∀t,isVar t=true->(t∈d.ts\/∃l∈d.lits,t∈l.ts)->Val cl vs σ s t:=by
   intro t hv ht;have hp:=posG_at vs t (hvs t hv ht);unfold Val;rw[codeT_var hv];have e:σ (-4-(posG vs t:Nat))=(posG cl (s t):Nat):=by show(if(-4-((posG vs t:Nat):Int))<0 then((posG cl (s (vs.getD (-4-(-4-((posG vs t:Nat):Int))).toNat [])):Nat):Int) else _)=_;rw[if_pos (by omega),show(-4-(-4-((posG vs t:Nat):Int))).toNat=posG vs t by omega,List.getD_eq_getElem?_getD,hp];rfl
   rw[e,show putT s t=s t by simp[putT,hv]];exact posG_at cl (s t) (hw t hv ht)
  have hdh:Dec nm cl (codeU nm cl vs d).h.n ((codeU nm cl vs d).h.r.map σ) (d.put s):=by
   refine dec_of (hC.head d hd) hσ (fun i hi=>?_)
   cases e:isVar (padW d.ts i) with
   |true=>exact hval _ e (.inl (padW_mem e))
   |false=>exact val_const hσ.fix s e ((hC.head d hd).consts i hi e)
  obtain⟨e1,e2⟩:=hx.same hC.ndn hC.ndc hdh;subst e1 e2;refine hP _ hr σ hσ (code_met hS hC hd hσ hval hm) ?_;intro i hi;have hlt:i<d.sorted.length:=Nat.lt_of_lt_of_le hi (by show(d.lits.filter (fun l=> !l.neg)).length<=_;unfold ClD.sorted;rw[List.length_append];omega);have hs:=List.getElem?_eq_getElem hlt;generalize d.sorted[i]=l at hs;have hl:l∈d.lits:=(d.sorted_mem l).1 (List.mem_of_getElem? hs);have hn:l.neg=false:=by rw[d.sorted_pos i l hs];exact decide_eq_false (Nat.not_le.2 hi)
  rw[codeU_b nm cl vs d i l hs (hC.four d hd)];refine hp l hl hn _ _ (dec_of (hC.lit d hd l hl) hσ (fun j hj=>?_))
  cases e:isVar (padW l.ts j) with
  |true=>exact hval _ e (.inr ⟨l,hl,padW_mem e⟩)
  |false=>exact val_const hσ.fix s e ((hC.lit d hd l hl).consts j hj e)
end
end
section
def layN(lay:B8->Nat)(nm:List B8)(n:Int):Nat:=lay (nm.getD n.toNat [])
theorem layN_pos{lay:B8->Nat}{nm:List B8}{k:B8}(h:k∈nm):layN lay nm (posG nm k:Nat)=lay k:=by unfold layN;rw[List.getD_eq_getElem?_getD,show(((posG nm k:Nat):Int)).toNat=posG nm k from rfl,posG_at nm k h];rfl
theorem codeT_lt{cl vs:List B8}{t:B8}(h:isVar t=false->t∈cl):codeT cl vs t<(cl.length:Int)+1:=by
 unfold codeT
 split
 ·omega
 ·rename_i hv;have:=posG_lt cl t (h (by simpa using hv));omega
theorem codeT_neg{cl vs:List B8}{t:B8}(h:codeT cl vs t<0):isVar t=true/\codeT cl vs t= -4-(posG vs t:Nat):=by
 cases e:isVar t with
 |true=>exact⟨rfl,codeT_var e⟩
 |false=>rw[codeT_const e]at h;omega
theorem codeU_bAny(nm cl vs:List B8)(d:ClD)(i:Nat):(∃(j:Nat) (l:LitD),d.sorted[j]? =some l/\(codeU nm cl vs d).b i=codeA nm cl vs l.name l.ts)\/(codeU nm cl vs d).b i=zA4:=by
 have key:∀j,(codeU nm cl vs d).b i=codeL nm cl vs d.sorted j->(∃(j:Nat) (l:LitD),d.sorted[j]? =some l/\(codeU nm cl vs d).b i=codeA nm cl vs l.name l.ts)\/(codeU nm cl vs d).b i=zA4:=by
  intro j e;rw[e];unfold codeL
  cases h:d.sorted[j]? with
  |some l=>exact .inl ⟨j,l,h,rfl⟩
  |none=>exact .inr rfl
 match i with
 |0=>exact key 0 rfl
 |1=>exact key 1 rfl
 |2=>exact key 2 rfl
 |_+3=>exact key 3 rfl
theorem codeL_none(nm cl vs:List B8)(L:List LitD)(i:Nat)(h:L.length<=i):codeL nm cl vs L i=zA4:=by unfold codeL;rw[List.getElem?_eq_none h]
theorem rules_code{ds:List ClD}{nm cl:List B8}{ar:B8->Nat}(hC:CodeOk ds nm cl ar){lay:B8->Nat}(hl:LayD lay ds){rules:List RuD}(hc:∀r∈rules,∃d∈ds,IsCode nm cl d r):RulesOk (layN lay nm) (nm.length:Int) ((cl.length:Int)+1) rules:=by
 have hA:∀(n:B8) (ts:List B8) (vs:List B8),Words nm cl ar n ts->∀y,(codeA nm cl vs n ts).r.Has y->y<(cl.length:Int)+1/\(y<0->y<= -4):=by intro n ts vs hw y hy;obtain⟨i,hi,rfl⟩:=codeR_has.1 hy;exact⟨codeT_lt (hw.consts i hi),fun h=>by rw[(codeT_neg h).2];omega⟩
 have hZ:∀y,zA4.r.Has y->y<(cl.length:Int)+1/\(y<0->y<= -4):=by
  intro y hy
  have:y=0:=by rcases hy with h|h|h<;>exact h
  omega
 have hB:∀d∈ds,∀vs i y,((codeU nm cl vs d).b i).r.Has y->y<(cl.length:Int)+1/\(y<0->y<= -4):=by
  intro d hd vs i y hy;rcases codeU_bAny nm cl vs d i with⟨j,l,hj,e⟩|e
  ·rw[e]at hy;exact hA _ _ _ (hC.lit d hd l ((d.sorted_mem l).1 (List.mem_of_getElem? hj))) y hy
  ·rw[e]at hy;exact hZ y hy
 have hcnt:∀d∈ds,d.sorted.length<=4:=fun d hd=>by rw[d.sorted_len];exact hC.four d hd
 refine⟨?_,?_,?_,?_,?_,?_⟩
 ·intro r hr;obtain⟨d,hd,vs,hvs,hvn,rfl⟩:=hc r hr;refine⟨hcnt d hd,?_,fun h=>codeL_none _ _ _ _ _ h,fun h=>codeL_none _ _ _ _ _ h,fun h=>codeL_none _ _ _ _ _ h,fun h=>codeL_none _ _ _ _ _ h⟩;show(d.lits.filter (fun l=> !l.neg)).length<=d.sorted.length;unfold ClD.sorted;rw[List.length_append];omega
 ·intro r hr;obtain⟨d,hd,vs,hvs,hvn,rfl⟩:=hc r hr;intro v hv hw
  have:∃t,isVar t=true/\v=codeT cl vs t/\(t∈d.ts\/∃l∈d.lits,l.neg=true/\t∈l.ts):=by
   rcases hw with hw|⟨j,h1,h2,hw⟩
   ·obtain⟨i,hi,rfl⟩:=codeR_has.1 (show(codeR cl vs d.ts).Has v from hw);have:=(codeT_neg hv).1;exact⟨_,this,rfl,.inl (padW_mem this)⟩
   ·have h2:j<d.sorted.length:=h2;have hs:=List.getElem?_eq_getElem h2;generalize d.sorted[j]=l at hs;rw[codeU_b nm cl vs d j l hs (hC.four d hd)]at hw;obtain⟨i,hi,rfl⟩:=codeR_has.1 (show(codeR cl vs l.ts).Has v from hw);have:=(codeT_neg hv).1;refine⟨_,this,rfl,.inr ⟨l,(d.sorted_mem l).1 (List.mem_of_getElem? hs),?_,padW_mem this⟩⟩;rw[d.sorted_pos j l hs];exact decide_eq_true h1
  obtain⟨t,ht,rfl,hin⟩:=this;obtain⟨l,hl,hn,htl⟩:=hC.safe d hd t ht hin;obtain⟨i,hi⟩:=List.getElem?_of_mem ((d.sorted_mem l).2 hl);have hp:=d.sorted_pos i l hi;rw[hn]at hp;have hp:i<(codeU nm cl vs d).pos:=Nat.not_le.1 (of_decide_eq_false hp.symm);refine⟨i,Nat.zero_le _,hp,?_⟩;rw[codeU_b nm cl vs d i l hi (hC.four d hd)];obtain⟨j,hj,e⟩:=mem_padW htl (hC.lit d hd l hl).len;exact codeR_has.2 ⟨j,hj,by rw[e]⟩
 ·intro r hr;obtain⟨d,hd,vs,hvs,hvn,rfl⟩:=hc r hr;exact⟨fun y hy=>(hA _ _ vs (hC.head d hd) y hy).1,fun i y hy=>(hB d hd vs i y hy).1⟩
 ·intro r hr;obtain⟨d,hd,vs,hvs,hvn,rfl⟩:=hc r hr;exact⟨fun y hy=>(hA _ _ vs (hC.head d hd) y hy).2,fun i y hy=>(hB d hd vs i y hy).2⟩
 ·intro r hr i hi;obtain⟨d,hd,vs,hvs,hvn,rfl⟩:=hc r hr;have h2:i<d.sorted.length:=hi;have hs:=List.getElem?_eq_getElem h2;generalize d.sorted[i]=l at hs;rw[codeU_b nm cl vs d i l hs (hC.four d hd)];have:=posG_lt nm l.name (hC.lit d hd l ((d.sorted_mem l).1 (List.mem_of_getElem? hs))).name;show 0<=((posG nm l.name:Nat):Int)/\((posG nm l.name:Nat):Int)<(nm.length:Int);omega
 ·intro r hr i hi;obtain⟨d,hd,vs,hvs,hvn,rfl⟩:=hc r hr;have h2:i<d.sorted.length:=hi;have hs:=List.getElem?_eq_getElem h2;generalize d.sorted[i]=l at hs;rw[codeU_b nm cl vs d i l hs (hC.four d hd)];have hll:=(d.sorted_mem l).1 (List.mem_of_getElem? hs);have h1:layN lay nm (codeA nm cl vs l.name l.ts).n=lay l.name:=layN_pos (hC.lit d hd l hll).name;have h3:layN lay nm (codeU nm cl vs d).h.n=lay d.name:=layN_pos (hC.head d hd).name;rw[h1,h3];have:=hl d hd l hll;have hp:=d.sorted_pos i l hs;refine⟨fun _=>by omega,fun h=>?_⟩;have hp:l.neg=true:=by rw[hp];exact decide_eq_true h
  rw[if_pos hp]at this;omega
abbrev W3:=List B8×List B8×List B8
def stepW(x:List B8×List B8)(t:B8):List B8×List B8:=if isVar t=true then(x.1,addG x.2 t) else(addG x.1 t,x.2)
def rowW(x:List B8×List B8)(ts:List B8):List B8×List B8:=stepW (stepW (stepW x (padW ts 0)) (padW ts 1)) (padW ts 2)
def atomW(x:W3)(n:B8)(ts:List B8):W3:=(addG x.1 n,rowW x.2 ts)
def litsW(x:W3)(L:List LitD):W3:=L.foldl (fun x l=>atomW x l.name l.ts) x
def ruleW(nm cl:List B8)(d:ClD):W3:=litsW (atomW (nm,cl,[]) d.name d.ts) d.sorted
theorem addG_pre{α:Type}[DecidableEq α](xs:List α)(k:α):xs<+:addG xs k:=by
 unfold addG
 split
 ·exact List.prefix_refl _
 ·exact List.prefix_append _ _
theorem addG_mem{α:Type}[DecidableEq α](xs:List α)(k:α):k∈addG xs k:=by
 unfold addG
 split
 ·assumption
 ·simp
theorem addG_sub{α:Type}[DecidableEq α]{xs:List α}{k x:α}(h:x∈addG xs k):x∈xs\/x=k:=by
 unfold addG at h
 split at h
 ·exact .inl h
 ·simpa using h
theorem addG_nodup{α:Type}[DecidableEq α]{xs:List α}(h:xs.Nodup)(k:α):(addG xs k).Nodup:=by
 unfold addG
 split
 ·exact h
 ·rename_i hk;exact List.nodup_append.2 ⟨h,by simp,fun a ha b hb=>by simp at hb;subst hb;rintro rfl;exact hk ha⟩
theorem posG_pre{α:Type}[DecidableEq α]{xs ys:List α}{k:α}(h:k∈xs)(hp:xs<+:ys):posG ys k=posG xs k:=by obtain⟨zs,rfl⟩:=hp;unfold posG;rw[if_pos h,if_pos (List.mem_append.2 (.inl h)),List.idxOf_append,if_pos h]
structure Pre3(x y:W3):Prop where
 a:x.1<+:y.1
 b:x.2.1<+:y.2.1
 c:x.2.2<+:y.2.2
theorem Pre3.refl(x:W3):Pre3 x x:=⟨List.prefix_refl _,List.prefix_refl _,List.prefix_refl _⟩
theorem Pre3.trans{x y z:W3}(h:Pre3 x y)(g:Pre3 y z):Pre3 x z:=⟨h.a.trans g.a,h.b.trans g.b,h.c.trans g.c⟩
theorem stepW_pre(x:List B8×List B8)(t:B8):x.1<+:(stepW x t).1/\x.2<+:(stepW x t).2:=by
 unfold stepW
 split
 ·exact⟨List.prefix_refl _,addG_pre _ _⟩
 ·exact⟨addG_pre _ _,List.prefix_refl _⟩
def KnownW(x:List B8×List B8)(t:B8):Prop:=(isVar t=true->t∈x.2)/\(isVar t=false->t∈x.1)
theorem stepW_known(x:List B8×List B8)(t:B8):KnownW (stepW x t) t:=by
 unfold stepW KnownW
 split
 ·rename_i h;exact⟨fun _=>addG_mem _ _,fun h'=>by rw[h]at h';cases h'⟩
 ·rename_i h;exact⟨fun h'=>absurd h' h,fun _=>addG_mem _ _⟩
theorem KnownW.mono{x y:List B8×List B8}{t:B8}(h:KnownW x t)(h1:x.1<+:y.1)(h2:x.2<+:y.2):KnownW y t:=⟨fun e=>h2.subset (h.1 e),fun e=>h1.subset (h.2 e)⟩
theorem codeT_pre{x y:List B8×List B8}{t:B8}(h:KnownW x t)(h1:x.1<+:y.1)(h2:x.2<+:y.2):codeT y.1 y.2 t=codeT x.1 x.2 t:=by
 unfold codeT
 split
 ·rename_i e;rw[posG_pre (h.1 e) h2]
 ·rename_i e;rw[posG_pre (h.2 (by simpa using e)) h1]
theorem rowW_pre(x:List B8×List B8)(ts:List B8):x.1<+:(rowW x ts).1/\x.2<+:(rowW x ts).2:=by have h1:=stepW_pre x (padW ts 0);have h2:=stepW_pre (stepW x (padW ts 0)) (padW ts 1);have h3:=stepW_pre (stepW (stepW x (padW ts 0)) (padW ts 1)) (padW ts 2);exact⟨(h1.1.trans h2.1).trans h3.1,(h1.2.trans h2.2).trans h3.2⟩
theorem rowW_known(x:List B8×List B8)(ts:List B8):∀i,i<3->KnownW (rowW x ts) (padW ts i):=by
 have h1:=stepW_known x (padW ts 0);have h2:=stepW_known (stepW x (padW ts 0)) (padW ts 1);have h3:=stepW_known (stepW (stepW x (padW ts 0)) (padW ts 1)) (padW ts 2);have p2:=stepW_pre (stepW x (padW ts 0)) (padW ts 1);have p3:=stepW_pre (stepW (stepW x (padW ts 0)) (padW ts 1)) (padW ts 2);intro i hi
 match i,hi with
 |0,_=>exact(h1.mono p2.1 p2.2).mono p3.1 p3.2
 |1,_=>exact h2.mono p3.1 p3.2
 |2,_=>exact h3
theorem rowW_code(x:List B8×List B8)(ts:List B8):codeR (rowW x ts).1 (rowW x ts).2 ts=⟨codeT (stepW x (padW ts 0)).1 (stepW x (padW ts 0)).2 (padW ts 0),codeT (stepW (stepW x (padW ts 0)) (padW ts 1)).1 (stepW (stepW x (padW ts 0)) (padW ts 1)).2 (padW ts 1),codeT (rowW x ts).1 (rowW x ts).2 (padW ts 2)⟩:=by have h1:=stepW_known x (padW ts 0);have h2:=stepW_known (stepW x (padW ts 0)) (padW ts 1);have p2:=stepW_pre (stepW x (padW ts 0)) (padW ts 1);have p3:=stepW_pre (stepW (stepW x (padW ts 0)) (padW ts 1)) (padW ts 2);unfold codeR;rw[R3.mk.injEq];exact⟨codeT_pre h1 (p2.1.trans p3.1) (p2.2.trans p3.2),codeT_pre h2 p3.1 p3.2,rfl⟩
theorem atomW_pre(x:W3)(n:B8)(ts:List B8):Pre3 x (atomW x n ts):=⟨addG_pre _ _,(rowW_pre _ _).1,(rowW_pre _ _).2⟩
theorem litsW_pre(x:W3)(L:List LitD):Pre3 x (litsW x L):=by
 unfold litsW
 induction L generalizing x with
 |nil=>exact .refl x
 |cons l r ih=>exact(atomW_pre x l.name l.ts).trans (ih _)
structure KnownA(x:W3)(n:B8)(ts:List B8):Prop where
 n:n∈x.1
 t:∀i,i<3->KnownW x.2 (padW ts i)
theorem KnownA.mono{x y:W3}{n:B8}{ts:List B8}(h:KnownA x n ts)(hp:Pre3 x y):KnownA y n ts:=⟨hp.a.subset h.n,fun i hi=>(h.t i hi).mono hp.b hp.c⟩
theorem atomW_known(x:W3)(n:B8)(ts:List B8):KnownA (atomW x n ts) n ts:=⟨addG_mem _ _,rowW_known _ _⟩
theorem codeA_pre{x y:W3}{n:B8}{ts:List B8}(h:KnownA x n ts)(hp:Pre3 x y):codeA y.1 y.2.1 y.2.2 n ts=codeA x.1 x.2.1 x.2.2 n ts:=by unfold codeA codeR;rw[posG_pre h.n hp.a,codeT_pre (h.t 0 (by omega)) hp.b hp.c,codeT_pre (h.t 1 (by omega)) hp.b hp.c,codeT_pre (h.t 2 (by omega)) hp.b hp.c]
theorem litsW_known(x:W3)(L:List LitD):∀l∈L,KnownA (litsW x L) l.name l.ts:=by
 unfold litsW
 induction L generalizing x with
 |nil=>intro l hl;cases hl
 |cons a r ih=>
  intro l hl;rcases List.mem_cons.1 hl with rfl|hl
  ·exact(atomW_known x l.name l.ts).mono (litsW_pre _ r)
  ·exact ih _ l hl
structure Nod3(x:W3):Prop where
 a:x.1.Nodup
 b:x.2.1.Nodup
 c:x.2.2.Nodup
theorem stepW_nod{x:List B8×List B8}(h:x.1.Nodup/\x.2.Nodup)(t:B8):(stepW x t).1.Nodup/\(stepW x t).2.Nodup:=by
 unfold stepW
 split
 ·exact⟨h.1,addG_nodup h.2 t⟩
 ·exact⟨addG_nodup h.1 t,h.2⟩
theorem atomW_nod{x:W3}(h:Nod3 x)(n:B8)(ts:List B8):Nod3 (atomW x n ts):=by have:=stepW_nod (stepW_nod (stepW_nod (x:=x.2) ⟨h.b,h.c⟩ (padW ts 0)) (padW ts 1)) (padW ts 2);exact⟨addG_nodup h.a n,this.1,this.2⟩
theorem litsW_nod{x:W3}(h:Nod3 x)(L:List LitD):Nod3 (litsW x L):=by
 unfold litsW
 induction L generalizing x with
 |nil=>exact h
 |cons l r ih=>exact ih (atomW_nod h l.name l.ts)
theorem codeU_pre{x y:W3}{d:ClD}(h:KnownA x d.name d.ts)(hl:∀l∈d.lits,KnownA x l.name l.ts)(hp:Pre3 x y):codeU y.1 y.2.1 y.2.2 d=codeU x.1 x.2.1 x.2.2 d:=by
 have k:∀i,codeL y.1 y.2.1 y.2.2 d.sorted i=codeL x.1 x.2.1 x.2.2 d.sorted i:=by
  intro i;unfold codeL
  cases e:d.sorted[i]? with
  |none=>rfl
  |some l=>exact codeA_pre (hl l ((d.sorted_mem l).1 (List.mem_of_getElem? e))) hp
 unfold codeU;rw[codeA_pre h hp,k,k,k,k]
theorem stepW_len(x:List B8×List B8)(t:B8):(stepW x t).1.length<=x.1.length+1/\(stepW x t).2.length<=x.2.length+1:=by
 have:∀(xs:List B8) k,(addG xs k).length<=xs.length+1:=by
  intro xs k;unfold addG
  split<;>simp
 unfold stepW
 split
 ·exact⟨Nat.le_succ _,this _ _⟩
 ·exact⟨this _ _,Nat.le_succ _⟩
structure Len3(x y:W3)(k:Nat):Prop where
 a:y.1.length<=x.1.length+k
 b:y.2.1.length<=x.2.1.length+3*k
 c:y.2.2.length<=x.2.2.length+3*k
theorem atomW_len(x:W3)(n:B8)(ts:List B8):Len3 x (atomW x n ts) 1:=by
 have h1:=stepW_len x.2 (padW ts 0);have h2:=stepW_len (stepW x.2 (padW ts 0)) (padW ts 1);have h3:=stepW_len (stepW (stepW x.2 (padW ts 0)) (padW ts 1)) (padW ts 2);refine⟨?_,?_,?_⟩
 ·show(addG x.1 n).length<=_;unfold addG
  split<;>simp
 ·show(stepW (stepW (stepW x.2 (padW ts 0)) (padW ts 1)) (padW ts 2)).1.length<=_;omega
 ·show(stepW (stepW (stepW x.2 (padW ts 0)) (padW ts 1)) (padW ts 2)).2.length<=_;omega
theorem litsW_len(x:W3)(L:List LitD):Len3 x (litsW x L) L.length:=by
 unfold litsW
 induction L generalizing x with
 |nil=>exact⟨by simp,by simp,by simp⟩
 |cons l r ih=>
  have h1:=atomW_len x l.name l.ts;have h2:=ih (atomW x l.name l.ts);refine⟨?_,?_,?_⟩
  ·have:=h1.a;have:=h2.a;simp only[List.foldl_cons,List.length_cons];omega
  ·have:=h1.b;have:=h2.b;simp only[List.foldl_cons,List.length_cons];omega
  ·have:=h1.c;have:=h2.c;simp only[List.foldl_cons,List.length_cons];omega
def allW(nm cl:List B8)(ds:List ClD):List B8×List B8:=ds.foldl (fun x d=>((ruleW x.1 x.2 d).1,(ruleW x.1 x.2 d).2.1)) (nm,cl)
def rulesW(nm cl:List B8):List ClD->List RuD
 |[]=>[]
 |d::r=>codeU (ruleW nm cl d).1 (ruleW nm cl d).2.1 (ruleW nm cl d).2.2 d::rulesW (ruleW nm cl d).1 (ruleW nm cl d).2.1 r
theorem ruleW_pre(nm cl:List B8)(d:ClD):Pre3 (nm,cl,[]) (ruleW nm cl d):=(atomW_pre _ _ _).trans (litsW_pre _ _)
theorem ruleW_known(nm cl:List B8)(d:ClD):KnownA (ruleW nm cl d) d.name d.ts/\∀l∈d.lits,KnownA (ruleW nm cl d) l.name l.ts:=
 ⟨(atomW_known _ _ _).mono (litsW_pre _ _),fun l hl=>litsW_known _ _ l ((d.sorted_mem l).2 hl)⟩
theorem allW_pre(nm cl:List B8)(ds:List ClD):nm<+:(allW nm cl ds).1/\cl<+:(allW nm cl ds).2:=by
 unfold allW
 induction ds generalizing nm cl with
 |nil=>exact⟨List.prefix_refl _,List.prefix_refl _⟩
 |cons d r ih=>have h:=ruleW_pre nm cl d;have h2:=ih (ruleW nm cl d).1 (ruleW nm cl d).2.1;exact⟨h.a.trans h2.1,h.b.trans h2.2⟩
theorem allW_nod{nm cl:List B8}(h1:nm.Nodup)(h2:cl.Nodup)(ds:List ClD):(allW nm cl ds).1.Nodup/\(allW nm cl ds).2.Nodup:=by
 unfold allW
 induction ds generalizing nm cl with
 |nil=>exact⟨h1,h2⟩
 |cons d r ih=>have h:Nod3 (ruleW nm cl d):=litsW_nod (atomW_nod (x:=(nm,cl,[])) ⟨h1,h2,List.nodup_nil⟩ d.name d.ts) d.sorted;exact ih h.a h.b
theorem rules_are(ds:List ClD)(nm cl nm' cl':List B8)(h3:∀d∈ds,d.ts.length<=3/\∀l∈d.lits,l.ts.length<=3)(hn:(allW nm cl ds).1<+:nm')(hc:(allW nm cl ds).2<+:cl')(h0:nm.Nodup)(h1:cl.Nodup):
 (∀r∈rulesW nm cl ds,∃d∈ds,IsCode nm' cl' d r)/\(∀d∈ds,∃r∈rulesW nm cl ds,IsCode nm' cl' d r)/\∀d∈ds,(d.name∈nm'/\∀i,i<3->isVar (padW d.ts i)=false->padW d.ts i∈cl')/\∀l∈d.lits,l.name∈nm'/\∀i,i<3->isVar (padW l.ts i)=false->padW l.ts i∈cl':=by
 induction ds generalizing nm cl with
 |nil=>
  refine⟨?_,?_,?_⟩
  ·intro r hr;cases hr
  ·intro d hd;cases hd
  ·intro d hd;cases hd
 |cons d r ih=>
  have hn':(allW (ruleW nm cl d).1 (ruleW nm cl d).2.1 r).1<+:nm':=hn;have hc':(allW (ruleW nm cl d).1 (ruleW nm cl d).2.1 r).2<+:cl':=hc;have hk:=ruleW_known nm cl d;have hd3:Nod3 (ruleW nm cl d):=litsW_nod (atomW_nod (x:=(nm,cl,[])) ⟨h0,h1,List.nodup_nil⟩ d.name d.ts) d.sorted;obtain⟨i1,i2,i3⟩:=ih _ _ (fun d hd=>h3 d (List.mem_cons_of_mem _ hd)) hn' hc' hd3.a hd3.b;have hp0:=allW_pre (ruleW nm cl d).1 (ruleW nm cl d).2.1 r;have hp:Pre3 (ruleW nm cl d) (nm',cl',(ruleW nm cl d).2.2):=⟨hp0.1.trans hn',hp0.2.trans hc',List.prefix_refl _⟩;have h3d:=h3 d (List.mem_cons_self ..)
  have hcode:IsCode nm' cl' d (codeU (ruleW nm cl d).1 (ruleW nm cl d).2.1 (ruleW nm cl d).2.2 d):=by
   refine⟨(ruleW nm cl d).2.2,?_,hd3.c,(codeU_pre hk.1 hk.2 hp).symm⟩;intro t hv ht
   have key:∀(n:B8) (ts:List B8),KnownA (ruleW nm cl d) n ts->ts.length<=3->t∈ts->t∈(ruleW nm cl d).2.2:=by
    intro n ts hka h3 hm;obtain⟨i,hi,e⟩:=mem_padW hm h3;have:=(hka.t i hi).1 (by rw[e];exact hv)
    rwa [e]at this
   rcases ht with ht|⟨l,hl,ht⟩
   ·exact key _ _ hk.1 h3d.1 ht
   ·exact key _ _ (hk.2 l hl) (h3d.2 l hl) ht
  have hkn:∀(n:B8) (ts:List B8),KnownA (ruleW nm cl d) n ts->n∈nm'/\∀i,i<3->isVar (padW ts i)=false->padW ts i∈cl':=by intro n ts hka;have:=hka.mono hp;exact⟨this.n,fun i hi e=>(this.t i hi).2 e⟩
  refine⟨?_,?_,?_⟩
  ·intro x hx;rcases List.mem_cons.1 hx with rfl|hx
   ·exact⟨d,List.mem_cons_self ..,hcode⟩
   ·obtain⟨d',hd',h⟩:=i1 x hx;exact⟨d',List.mem_cons_of_mem _ hd',h⟩
  ·intro x hx;rcases List.mem_cons.1 hx with rfl|hx
   ·exact⟨_,List.mem_cons_self ..,hcode⟩
   ·obtain⟨d',hd',h⟩:=i2 x hx;exact⟨d',List.mem_cons_of_mem _ hd',h⟩
  ·intro x hx;rcases List.mem_cons.1 hx with rfl|hx
   ·exact⟨hkn _ _ hk.1,fun l hl=>hkn _ _ (hk.2 l hl)⟩
   ·exact i3 x hx
def litsC(x:W3):List LitD->List A4
 |[]=>[]
 |l::r=>codeA (atomW x l.name l.ts).1 (atomW x l.name l.ts).2.1 (atomW x l.name l.ts).2.2 l.name l.ts::litsC (atomW x l.name l.ts) r
theorem litsC_len(x:W3)(L:List LitD):(litsC x L).length=L.length:=by
 induction L generalizing x with
 |nil=>rfl
 |cons l r ih=>simp[litsC,ih]
theorem litsW_snoc(x:W3)(L:List LitD)(l:LitD):litsW x (L++[l])=atomW (litsW x L) l.name l.ts:=by unfold litsW;rw[List.foldl_append];rfl
theorem litsC_snoc(x:W3)(L:List LitD)(l:LitD):litsC x (L++[l])=litsC x L++[codeA (atomW (litsW x L) l.name l.ts).1 (atomW (litsW x L) l.name l.ts).2.1 (atomW (litsW x L) l.name l.ts).2.2 l.name l.ts]:=by
 induction L generalizing x with
 |nil=>rfl
 |cons a r ih=>show _::litsC _ (r++[l])=_::(litsC _ r++_);rw[ih];rfl
theorem litsC_get(x:W3)(L:List LitD)(i:Nat)(l:LitD)(h:L[i]? =some l):(litsC x L)[i]? =some (codeA (litsW x L).1 (litsW x L).2.1 (litsW x L).2.2 l.name l.ts):=by
 induction L generalizing x i with
 |nil=>simp at h
 |cons a r ih=>
  match i with
  |0=>
   injection h with h
   subst h;show some _=some _;congr 1;exact(codeA_pre (atomW_known x a.name a.ts) (litsW_pre (atomW x a.name a.ts) r)).symm
  |i+1=>exact ih (atomW x a.name a.ts) i h
def ruP(h:A4)(xs:List A4)(pos:Nat):RuD:=⟨h,xs.getD 0 zA4,xs.getD 1 zA4,xs.getD 2 zA4,xs.getD 3 zA4,pos,xs.length⟩
theorem ruP_final(nm cl:List B8)(d:ClD):ruP (codeA (atomW (nm,cl,[]) d.name d.ts).1 (atomW (nm,cl,[]) d.name d.ts).2.1 (atomW (nm,cl,[]) d.name d.ts).2.2 d.name d.ts) (litsC (atomW (nm,cl,[]) d.name d.ts) d.sorted) (d.lits.filter (fun l=> !l.neg)).length=codeU (ruleW nm cl d).1 (ruleW nm cl d).2.1 (ruleW nm cl d).2.2 d:=by
 have hk:∀i,(litsC (atomW (nm,cl,[]) d.name d.ts) d.sorted).getD i zA4=codeL (ruleW nm cl d).1 (ruleW nm cl d).2.1 (ruleW nm cl d).2.2 d.sorted i:=by
  intro i;unfold codeL;rw[List.getD_eq_getElem?_getD]
  cases e:d.sorted[i]? with
  |none=>rw[List.getElem?_eq_none (by rw[litsC_len];exact List.getElem?_eq_none_iff.1 e)];rfl
  |some l=>rw[litsC_get _ _ i l e];rfl
 have hh:=codeA_pre (atomW_known (nm,cl,[]) d.name d.ts) (litsW_pre (atomW (nm,cl,[]) d.name d.ts) d.sorted);unfold ruP codeU;rw[hk,hk,hk,hk,litsC_len,<-hh];rfl
def doneL(L:List LitD):Bool->Nat->List LitD
 |false,k=>(L.take k).filter (fun l=> !l.neg)
 |true,k=>L.filter (fun l=> !l.neg)++(L.take k).filter (fun l=>l.neg)
theorem doneL_len(L:List LitD)(b:Bool)(k:Nat):(doneL L b k).length<=L.length:=by
 have h0:∀(X:List LitD),(X.filter (fun l=> !l.neg)).length+(X.filter (fun l=>l.neg)).length=X.length:=by
  intro X
  induction X with
  |nil=>rfl
  |cons l r ih=>cases h:l.neg<;>simp[h]<;>omega
 have h1:=h0 L
 cases b with
 |false=>
  have:(L.take k).length<=L.length:=by simp;omega
  exact Nat.le_trans (List.length_filter_le _ _) this
 |true=>have h2:((L.take k).filter (fun l=>l.neg)).length<=(L.filter (fun l=>l.neg)).length:=(List.Sublist.filter _ (List.take_sublist k L)).length_le;show(L.filter (fun l=> !l.neg)++(L.take k).filter (fun l=>l.neg)).length<=_;rw[List.length_append];omega
theorem doneL_step(L:List LitD)(b:Bool)(k:Nat)(hk:k<L.length):doneL L b (k+1)=if L[k].neg=b then doneL L b k++[L[k]] else doneL L b k:=by
 cases b with
 |false=>show(L.take (k+1)).filter _=_;rw[List.take_succ_eq_append_getElem hk,List.filter_append];cases h:L[k].neg<;>simp[h,doneL]
 |true=>show L.filter _++(L.take (k+1)).filter _=_;rw[List.take_succ_eq_append_getElem hk,List.filter_append];cases h:L[k].neg<;>simp[h,doneL]
end
section
def decB(cl:List B8)(n:B8)(k:Nat)(x:R3):BA:=(n,[cl.getD x.a.toNat [],cl.getD x.b.toNat [],cl.getD x.c.toNat []].take k)
theorem Dec.decB{nm cl:List B8}{n:Int}{x:R3}{a:BA}(h:Dec nm cl n x a)(h3:a.2.length<=3):decB cl a.1 a.2.length x=a:=by
 obtain⟨an,ts⟩:=a;have h0:cl.getD x.a.toNat []=padW ts 0:=by rw[List.getD_eq_getElem?_getD,h.t0];rfl
 have h1:cl.getD x.b.toNat []=padW ts 1:=by rw[List.getD_eq_getElem?_getD,h.t1];rfl
 have h2:cl.getD x.c.toNat []=padW ts 2:=by rw[List.getD_eq_getElem?_getD,h.t2];rfl
 unfold Proofs.YtpbfiffgcgnidaaGreat.decB;rw[h0,h1,h2];congr 1
 match ts,h3 with
 |[],_=>rfl
 |[_],_=>rfl
 |[_,_],_=>rfl
 |[_,_,_],_=>rfl
 |_::_::_::_::_,h3=>simp at h3
section
variable {ds:List ClD} {nm cl:List B8} {ar:B8->Nat} {M:BA->Prop}
theorem answers_are(hS:StableD ds M)(hC:CodeOk ds nm cl ar){an:B8}{ats vs:List B8}(hw:Words nm cl ar an ats)(hvs:∀t,isVar t=true->t∈ats->t∈vs){rows:List R3}(hn:rows.Nodup)(hr:∀x,x∈rows↔CodM nm cl M (codeA nm cl vs an ats).n x/\Inst (codeA nm cl vs an ats).r x):
 (rows.map (decB cl an ats.length)).Nodup/\∀h,h∈rows.map (decB cl an ats.length)↔M h/\∃s,h=(an,putsT s ats):=by
 have key:∀x∈rows,∃s,M (an,putsT s ats)/\Dec nm cl (codeA nm cl vs an ats).n x (an,putsT s ats):=by intro x hx;obtain⟨⟨a,ha,hd⟩,σ,hσ,rfl⟩:=(hr x).1 hx;obtain⟨e,_⟩:=dec_read hw hσ (holdsD_ar hS hC ha) hd;exact⟨_,e▸ha,e▸hd⟩
 have hlen:∀s,((an,putsT s ats):BA).2.length=ats.length:=fun s=>by simp[putsT]
 have hdec:∀x∈rows,∀s,Dec nm cl (codeA nm cl vs an ats).n x (an,putsT s ats)->decB cl an ats.length x=(an,putsT s ats):=by
  intro x hx s hd;have:=hd.decB (by rw[hlen];exact hw.len)
  rwa [hlen]at this
 refine⟨?_,fun h=>⟨fun hh=>?_,?_⟩⟩
 ·unfold List.Nodup;rw[List.pairwise_map];refine List.Pairwise.imp_of_mem ?_ hn;intro x y hx hy hne e;obtain⟨s,_,h1⟩:=key x hx;obtain⟨s',_,h2⟩:=key y hy;rw[hdec x hx s h1,hdec y hy s' h2]at e;rw[<-e]at h2;exact hne (h1.same hC.ndn hC.ndc h2).2
 ·obtain⟨x,hx,rfl⟩:=List.mem_map.1 hh;obtain⟨s,hM,hd⟩:=key x hx;rw[hdec x hx s hd];exact⟨hM,s,rfl⟩
 ·rintro⟨hM,s,rfl⟩;have hwd:=holdsD_words hS hC hM
  let σ:Int->Int:=fun v=>if v<0 then(posG cl (s (vs.getD (-4-v).toNat [])):Nat) else v
  have hσ:Grd σ:=⟨fun c hc=>if_neg (by omega),fun v=>by
   show 0<=(if v<0 then((posG cl (s (vs.getD (-4-v).toNat [])):Nat):Int) else v)
   split
   ·exact Int.natCast_nonneg _
   ·omega⟩
  have hd:Dec nm cl (codeA nm cl vs an ats).n ((codeA nm cl vs an ats).r.map σ) (an,putsT s ats):=by
   refine dec_of hw hσ (fun i hi=>?_)
   cases e:isVar (padW ats i) with
   |false=>exact val_const hσ.fix s e (hw.consts i hi e)
   |true=>
    have hp:=posG_at vs _ (hvs _ e (padW_mem e));have hm:=hwd.2 i hi;rw[show((an,putsT s ats):BA).2=putsT s ats from rfl,padW_put,show putT s (padW ats i)=s (padW ats i) by simp[putT,e]]at hm;unfold Val;rw[codeT_var e];have e2:σ (-4-(posG vs (padW ats i):Nat))=(posG cl (s (padW ats i)):Nat):=by show(if(-4-((posG vs (padW ats i):Nat):Int))<0 then((posG cl (s (vs.getD (-4-(-4-((posG vs (padW ats i):Nat):Int))).toNat [])):Nat):Int) else _)=_;rw[if_pos (by omega),show(-4-(-4-((posG vs (padW ats i):Nat):Int))).toNat=posG vs (padW ats i) by omega,List.getD_eq_getElem?_getD,hp];rfl
    rw[e2,show putT s (padW ats i)=s (padW ats i) by simp[putT,e]];exact posG_at cl _ hm
  have hx:(codeA nm cl vs an ats).r.map σ∈rows:=(hr _).2 ⟨⟨_,hM,hd⟩,σ,hσ,rfl⟩;exact List.mem_map.2 ⟨_,hx,hdec _ hx s hd⟩
end
end
end Go.Proofs.YtpbfiffgcgnidaaGreat
