import Derived.Test.YtpbfiffgcgnidaaGreatYal
import Derived.Test.YtpbfiffgcgnidaaGreatY9
import Derived.Test.YtpbfiffgcgnidaaGreatY17
namespace Go.Proofs.YtpbfiffgcgnidaaGreat
set_option maxRecDepth 100000
set_option maxHeartbeats 4000000
set_option linter.unusedSimpArgs false
section
abbrev BA:=B8×List B8
def CA(s:B8->B8)(t:B8):B8:=if AK t=true then s t else t
def Az(s:B8->B8)(ts:List B8):List B8:=ts.map (CA s)
def AG.put(l:AG)(s:B8->B8):BA:=(l.name,Az s l.ts)
def Ap.put(d:Ap)(s:B8->B8):BA:=(d.name,Az s d.ts)
def JI(M:BA->Prop)(d:Ap)(s:B8->B8):Prop:=∀l∈d.lits,(l.neg=false->M (l.put s))/\(l.neg=true->¬M (l.put s))
structure A1(ds:List Ap)(M:BA->Prop):Prop where
 closed:∀d∈ds,∀s,JI M d s->M (d.put s)
 least:∀P:BA->Prop,(∀d∈ds,∀s,JI M d s->(∀l∈d.lits,l.neg=false->P (l.put s))->P (d.put s))->∀a,M a->P a
def GZ(lay:B8->Nat)(ds:List Ap):Prop:=∀d∈ds,∀l∈d.lits,lay l.name+(if l.neg=true then 1 else 0)<=lay d.name
def HL(lay:B8->Nat)(ds:List Ap):Nat->BA->Prop
 |0,_=>False
 |k+1,a=>∀P:BA->Prop,(∀d∈ds,lay d.name<=k->∀s,(∀l∈d.lits,l.neg=true->¬HL lay ds k (l.put s))->(∀l∈d.lits,l.neg=false->P (l.put s))->P (d.put s))->P a
section
variable {lay:B8->Nat} {ds:List Ap}
theorem HL.close{k:Nat}{d:Ap}(hd:d∈ds)(hk:lay d.name<=k)(s:B8->B8)(hn:∀l∈d.lits,l.neg=true->¬HL lay ds k (l.put s))(hp:∀l∈d.lits,l.neg=false->HL lay ds (k+1) (l.put s)):HL lay ds (k+1) (d.put s):=by intro P hP;exact hP d hd hk s hn (fun l hl e=>hp l hl e P hP)
theorem HL.next(hl:GZ lay ds)(k:Nat):∀a:BA,lay a.1<k->(HL lay ds k a↔HL lay ds (k+1) a):=by
 induction k with
 |zero=>intro a h;omega
 |succ k ih=>
  have hneg:∀d∈ds,lay d.name<=k->∀l∈d.lits,l.neg=true->∀s,(HL lay ds k (l.put s)↔HL lay ds (k+1) (l.put s)):=by intro d hd hk l hll e s;have:=hl d hd l hll;rw[if_pos e]at this;exact ih (l.put s) (show lay l.name<k by omega)
  intro a ha;constructor
  ·intro h P hP;refine h P ?_;intro d hd hk s hn hp;exact hP d hd (by omega) s (fun l hll e hx=>hn l hll e ((hneg d hd hk l hll e s).2 hx)) hp
  ·intro h;refine h (fun b=>lay b.1<=k->HL lay ds (k+1) b) ?_ (by omega);intro d hd hk s hn hp hk';have hk'':lay d.name<=k:=hk';refine HL.close hd hk'' s (fun l hll e hx=>hn l hll e ((hneg d hd hk'' l hll e s).1 hx)) (fun l hll e=>hp l hll e ?_);have:=hl d hd l hll;show lay l.name<=k;omega
theorem HL.up(hl:GZ lay ds)(a:BA)(j:Nat):HL lay ds (lay a.1+1+j) a↔HL lay ds (lay a.1+1) a:=by
 induction j with
 |zero=>exact Iff.rfl
 |succ j ih=>exact(HL.next hl (lay a.1+1+j) a (by omega)).symm.trans ih
def HD(lay:B8->Nat)(ds:List Ap)(a:BA):Prop:=HL lay ds (lay a.1+1) a
theorem HD.of{k:Nat}(hl:GZ lay ds)(a:BA)(h:lay a.1<k):HL lay ds k a↔HD lay ds a:=by have:=HL.up hl a (k-(lay a.1+1));rw[show lay a.1+1+(k-(lay a.1+1))=k by omega]at this;exact this
theorem KK(hl:GZ lay ds):A1 ds (HD lay ds):=by
 have hc:∀d∈ds,∀s,JI (HD lay ds) d s->HD lay ds (d.put s):=by
  intro d hd s hm;refine HL.close (k:=lay d.name) hd (Nat.le_refl _) s (fun l hll e hx=>?_) (fun l hll e=>?_)
  ·have:=hl d hd l hll;rw[if_pos e]at this;exact(hm l hll).2 e ((HD.of hl (l.put s) (show lay l.name<lay d.name by omega)).1 hx)
  ·have:=hl d hd l hll;exact(HD.of hl (l.put s) (show lay l.name<lay d.name+1 by omega)).2 ((hm l hll).1 e)
 refine⟨hc,fun P hP a ha=>?_⟩
 have:=ha (fun b=>HD lay ds b/\P b) (by
  intro d hd hk s hn hp;have hm:JI (HD lay ds) d s:=by intro l hll;refine⟨fun e=>(hp l hll e).1,fun e hx=>hn l hll e ?_⟩;have:=hl d hd l hll;rw[if_pos e]at this;exact(HD.of hl (l.put s) (show lay l.name<lay a.1 by omega)).2 hx
  exact⟨hc d hd s hm,hP d hd s hm (fun l hll e=>(hp l hll e).2)⟩)
 exact this.2
end
end
section
def Ab(ts:List B8)(i:Nat):B8:=ts.getD i []
theorem Hu:AK []=false:=rfl
theorem C1(s:B8->B8)(ts:List B8)(i:Nat):Ab (Az s ts) i=CA s (Ab ts i):=by
 unfold Ab Az;rw[List.getD_eq_getElem?_getD,List.getD_eq_getElem?_getD,List.getElem?_map]
 cases ts[i]? with
 |some t=>rfl
 |none=>simp[CA,Hu]
theorem CF{α:Type}[DecidableEq α](xs:List α)(k:α)(h:k∈xs):xs[AR xs k]? =some k:=by unfold AR;rw[if_pos h,List.getElem?_eq_getElem (List.idxOf_lt_length_iff.2 h)];simp
theorem Ie{α:Type}[DecidableEq α](xs:List α)(k:α)(h:k∈xs):AR xs k<xs.length:=(List.getElem?_eq_some_iff.1 (CF xs k h)).1
theorem DB{α:Type}[DecidableEq α]{xs:List α}(hn:xs.Nodup){k:α}{i:Nat}(h:xs[i]? =some k):AR xs k=i:=by have hk:k∈xs:=List.mem_of_getElem? h;have h1:=CF xs k hk;obtain⟨a,b⟩:=List.getElem?_eq_some_iff.1 h;obtain⟨c,e⟩:=List.getElem?_eq_some_iff.1 h1;exact(List.getElem_inj hn).1 (e.trans b.symm)
def BT(cl vs:List B8)(t:B8):Int:=if AK t=true then-4-(AR vs t:Nat) else(AR cl t:Nat)
def ER(cl vs:List B8)(ts:List B8):R3:=⟨BT cl vs (Ab ts 0),BT cl vs (Ab ts 1),BT cl vs (Ab ts 2)⟩
def Be(nm cl vs:List B8)(n:B8)(ts:List B8):A4:=⟨(AR nm n:Nat),ER cl vs ts⟩
def Ap.sorted(d:Ap):List AG:=d.lits.filter (fun l=> !l.neg)++d.lits.filter (fun l=>l.neg)
def Dv(nm cl vs:List B8)(L:List AG)(i:Nat):A4:=match L[i]? with
 |some l=>Be nm cl vs l.name l.ts
 |none=>G4
def BX(nm cl vs:List B8)(d:Ap):Bm:=⟨Be nm cl vs d.name d.ts,Dv nm cl vs d.sorted 0,Dv nm cl vs d.sorted 1,Dv nm cl vs d.sorted 2,Dv nm cl vs d.sorted 3,(d.lits.filter (fun l=> !l.neg)).length,d.sorted.length⟩
theorem Ap.sorted_len(d:Ap):d.sorted.length=d.lits.length:=by
 unfold Ap.sorted;rw[List.length_append]
 induction d.lits with
 |nil=>rfl
 |cons l r ih=>cases h:l.neg<;>simp[h]<;>omega
theorem Ap.sorted_mem(d:Ap)(l:AG):l∈d.sorted↔l∈d.lits:=by unfold Ap.sorted;rw[List.mem_append,List.mem_filter,List.mem_filter];cases h:l.neg<;>simp
theorem Ap.sorted_pos(d:Ap)(i:Nat)(l:AG)(h:d.sorted[i]? =some l):l.neg=decide ((d.lits.filter (fun l=> !l.neg)).length<=i):=by
 unfold Ap.sorted at h;rw[List.getElem?_append]at h
 split at h
 ·have:=List.mem_filter.1 (List.mem_of_getElem? h);rw[decide_eq_false (by omega)];simpa using this.2
 ·have:=List.mem_filter.1 (List.mem_of_getElem? h);rw[decide_eq_true (by omega)];simpa using this.2
theorem DF(nm cl vs:List B8)(d:Ap)(i:Nat)(l:AG)(h:d.sorted[i]? =some l)(h4:d.lits.length<=4):(BX nm cl vs d).b i=Be nm cl vs l.name l.ts:=by
 have hi:=(List.getElem?_eq_some_iff.1 h).1;rw[Ap.sorted_len]at hi;have e:Dv nm cl vs d.sorted i=Be nm cl vs l.name l.ts:=by unfold Dv;rw[h]
 match i,hi with
 |0,_=>exact e
 |1,_=>exact e
 |2,_=>exact e
 |3,_=>exact e
 |_+4,hi=>omega
structure ES(nm cl:List B8)(ar:B8->Nat)(n:B8)(ts:List B8):Prop where
 name:n∈nm
 len:ts.length<=3
 ar:ts.length=ar n
 consts:∀i,i<3->AK (Ab ts i)=false->Ab ts i∈cl
structure DN(ds:List Ap)(nm cl:List B8)(ar:B8->Nat):Prop where
 ndn:nm.Nodup
 ndc:cl.Nodup
 head:∀d∈ds,ES nm cl ar d.name d.ts
 lit:∀d∈ds,∀l∈d.lits,ES nm cl ar l.name l.ts
 four:∀d∈ds,d.lits.length<=4
 safe:∀d∈ds,∀t,AK t=true->(t∈d.ts\/∃l∈d.lits,l.neg=true/\t∈l.ts)->∃l∈d.lits,l.neg=false/\t∈l.ts
def FJ(nm cl:List B8)(d:Ap)(r:Bm):Prop:=∃vs,(∀t,AK t=true->(t∈d.ts\/∃l∈d.lits,t∈l.ts)->t∈vs)/\vs.Nodup/\r=BX nm cl vs d
structure JL(nm cl:List B8)(n:Int)(x:R3)(a:BA):Prop where
 n0:0<=n
 n:nm[n.toNat]? =some a.1
 g:x.Ground
 t0:cl[x.a.toNat]? =some (Ab a.2 0)
 t1:cl[x.b.toNat]? =some (Ab a.2 1)
 t2:cl[x.c.toNat]? =some (Ab a.2 2)
theorem DG{cl vs:List B8}{t:B8}(h:AK t=false):BT cl vs t=(AR cl t:Nat):=by unfold BT;rw[if_neg (by simp[h])]
theorem EE{cl vs:List B8}{t:B8}(h:AK t=true):BT cl vs t= -4-(AR vs t:Nat):=by unfold BT;rw[if_pos h]
theorem C2{ts:List B8}{i:Nat}(h:AK (Ab ts i)=true):Ab ts i∈ts:=by
 unfold Ab at*;rw[List.getD_eq_getElem?_getD]at*
 cases e:ts[i]? with
 |none=>rw[e]at h;simp[Hu]at h
 |some t=>exact List.mem_of_getElem? e
theorem El{ts:List B8}{t:B8}(h:t∈ts)(hl:ts.length<=3):∃i,i<3/\Ab ts i=t:=by obtain⟨i,hi,rfl⟩:=List.getElem_of_mem h;exact⟨i,by omega,by unfold Ab;rw[List.getD_eq_getElem?_getD,List.getElem?_eq_getElem hi];rfl⟩
theorem DX{cl vs:List B8}{ts:List B8}{y:Int}:(ER cl vs ts).Has y↔ ∃i,i<3/\y=BT cl vs (Ab ts i):=by
 unfold R3.Has ER;constructor
 ·rintro(h|h|h)
  ·exact⟨0,by omega,h⟩
  ·exact⟨1,by omega,h⟩
  ·exact⟨2,by omega,h⟩
 ·rintro⟨i,hi,h⟩
  match i,hi with
  |0,_=>exact .inl h
  |1,_=>exact .inr (.inl h)
  |2,_=>exact .inr (.inr h)
def Nq(cl vs:List B8)(σ:Int->Int)(s:B8->B8)(t:B8):Prop:=cl[(σ (BT cl vs t)).toNat]? =some (CA s t)
theorem GM{nm cl vs:List B8}{ar:B8->Nat}{n:B8}{ts:List B8}(hw:ES nm cl ar n ts){σ:Int->Int}(hσ:JK σ){s:B8->B8}(h:∀i,i<3->Nq cl vs σ s (Ab ts i)):JL nm cl (Be nm cl vs n ts).n ((Be nm cl vs n ts).r.map σ) (n,Az s ts):=by
 refine⟨Int.natCast_nonneg _,?_,hσ.ground _,?_,?_,?_⟩
 ·show nm[((AR nm n:Nat):Int).toNat]? =some n;exact CF nm n hw.name
 ·show cl[(σ (BT cl vs (Ab ts 0))).toNat]? =some (Ab (Az s ts) 0);rw[C1];exact h 0 (by omega)
 ·show cl[(σ (BT cl vs (Ab ts 1))).toNat]? =some (Ab (Az s ts) 1);rw[C1];exact h 1 (by omega)
 ·show cl[(σ (BT cl vs (Ab ts 2))).toNat]? =some (Ab (Az s ts) 2);rw[C1];exact h 2 (by omega)
theorem DP{cl vs:List B8}{σ:Int->Int}(hσ:G0 σ)(s:B8->B8){t:B8}(h:AK t=false)(hm:t∈cl):Nq cl vs σ s t:=by unfold Nq;rw[DG h,hσ _ (Int.natCast_nonneg _),show CA s t=t by simp[CA,h]];exact CF cl t hm
def DA(cl vs:List B8)(σ:Int->Int)(t:B8):B8:=cl.getD (σ (BT cl vs t)).toNat []
theorem Es{nm cl vs:List B8}{ar:B8->Nat}{n:B8}{ts:List B8}(hw:ES nm cl ar n ts){σ:Int->Int}(hσ:JK σ){a:BA}(hl:a.2.length=ar a.1)(h:JL nm cl (Be nm cl vs n ts).n ((Be nm cl vs n ts).r.map σ) a):a=(n,Az (DA cl vs σ) ts)/\∀i,i<3->Nq cl vs σ (DA cl vs σ) (Ab ts i):=by
 have h1:nm[((AR nm n:Nat):Int).toNat]? =some a.1:=h.n;have h2:nm[((AR nm n:Nat):Int).toNat]? =some n:=CF nm n hw.name;have e1:a.1=n:=by rw[h1]at h2;injection h2
 have h3:∀i,i<3->cl[(σ (BT cl vs (Ab ts i))).toNat]? =some (Ab a.2 i):=by
  intro i hi
  match i,hi with
  |0,_=>exact h.t0
  |1,_=>exact h.t1
  |2,_=>exact h.t2
 have h4:∀i,i<3->Ab a.2 i=CA (DA cl vs σ) (Ab ts i):=by
  intro i hi;unfold CA
  split
  ·unfold DA;rw[List.getD_eq_getElem?_getD,h3 i hi];rfl
  ·rename_i hv;have hv:AK (Ab ts i)=false:=by simpa using hv
   have h5:=h3 i hi;rw[DG hv,hσ.fix _ (Int.natCast_nonneg _)]at h5;have h6:=CF cl _ (hw.consts i hi hv);rw[show(((AR cl (Ab ts i):Nat):Int)).toNat=AR cl (Ab ts i) from rfl,h6]at h5
   injection h5 with h5
   exact h5.symm
 have e2:a.2=Az (DA cl vs σ) ts:=by
  have hlen:a.2.length=(Az (DA cl vs σ) ts).length:=by rw[hl,e1,<-hw.ar];simp[Az]
  apply List.ext_getElem hlen;intro i hi hi'
  have hi3:i<3:=by
   have:=hw.len;have:(Az (DA cl vs σ) ts).length=ts.length:=by simp[Az]
   omega
  have h5:=h4 i hi3;rw[<-C1]at h5;unfold Ab at h5;rw[List.getD_eq_getElem?_getD,List.getD_eq_getElem?_getD,List.getElem?_eq_getElem hi,List.getElem?_eq_getElem hi']at h5;exact h5
 refine⟨Prod.ext e1 e2,fun i hi=>?_⟩;unfold Nq;rw[h3 i hi,h4 i hi]
theorem JL.same{nm cl:List B8}(hn:nm.Nodup)(hc:cl.Nodup){n n':Int}{x x':R3}{a:BA}(h:JL nm cl n x a)(h':JL nm cl n' x' a):n=n'/\x=x':=by have e1:=(DB hn h.n).symm.trans (DB hn h'.n);have e2:=(DB hc h.t0).symm.trans (DB hc h'.t0);have e3:=(DB hc h.t1).symm.trans (DB hc h'.t1);have e4:=(DB hc h.t2).symm.trans (DB hc h'.t2);have a1:=h.n0;have a2:=h'.n0;have b1:=h.g x.a (.inl rfl);have b2:=h'.g x'.a (.inl rfl);have c1:=h.g x.b (.inr (.inl rfl));have c2:=h'.g x'.b (.inr (.inl rfl));have d1:=h.g x.c (.inr (.inr rfl));have d2:=h'.g x'.c (.inr (.inr rfl));refine⟨by omega,?_⟩;obtain⟨x1,x2,x3⟩:=x;obtain⟨y1,y2,y3⟩:=x';simp only at*;congr 1<;>omega
def L5(nm cl:List B8)(M:BA->Prop)(n:Int)(x:R3):Prop:=∃a,M a/\JL nm cl n x a
section
variable {ds:List Ap} {nm cl:List B8} {ar:B8->Nat} {M:BA->Prop}
theorem EC(hS:A1 ds M)(hC:DN ds nm cl ar){a:BA}(h:M a):a.2.length=ar a.1:=by refine hS.least (fun a=>a.2.length=ar a.1) ?_ a h;intro d hd s _ _;show(Az s d.ts).length=ar d.name;rw[<-(hC.head d hd).ar];simp[Az]
theorem Fi(hS:A1 ds M)(hC:DN ds nm cl ar){a:BA}(h:M a):a.1∈nm/\∀i,i<3->Ab a.2 i∈cl:=by
 refine hS.least (fun a=>a.1∈nm/\∀i,i<3->Ab a.2 i∈cl) ?_ a h;intro d hd s hm hp;refine⟨(hC.head d hd).name,fun i hi=>?_⟩;show Ab (Az s d.ts) i∈cl;rw[C1];unfold CA
 split
 ·rename_i hv;obtain⟨l,hl,hneg,ht⟩:=hC.safe d hd _ hv (.inl (C2 hv));obtain⟨j,hj,e⟩:=El ht (hC.lit d hd l hl).len;have:=(hp l hl hneg).2 j hj;rw[show(l.put s).2=Az s l.ts from rfl,C1,e]at this;simpa[CA,hv]using this
 ·rename_i hv;exact(hC.head d hd).consts i hi (by simpa using hv)
theorem Iy(hS:A1 ds M)(hC:DN ds nm cl ar){d:Ap}(hd:d∈ds){s:B8->B8}(hp:∀l∈d.lits,l.neg=false->M (l.put s)):∀t,AK t=true->(t∈d.ts\/∃l∈d.lits,t∈l.ts)->s t∈cl:=by
 intro t hv ht
 have:∃l∈d.lits,l.neg=false/\t∈l.ts:=by
  rcases ht with ht|⟨l,hl,ht⟩
  ·exact hC.safe d hd t hv (.inl ht)
  ·cases e:l.neg with
   |false=>exact⟨l,hl,e,ht⟩
   |true=>exact hC.safe d hd t hv (.inr ⟨l,hl,e,ht⟩)
 obtain⟨l,hl,hneg,ht⟩:=this;obtain⟨j,hj,e⟩:=El ht (hC.lit d hd l hl).len;have:=(Fi hS hC (hp l hl hneg)).2 j hj;rw[show(l.put s).2=Az s l.ts from rfl,C1,e]at this;simpa[CA,hv]using this
theorem M1(hS:A1 ds M)(hC:DN ds nm cl ar){d:Ap}(hd:d∈ds){vs:List B8}{σ:Int->Int}(hσ:JK σ){s:B8->B8}(hv:∀t,AK t=true->(t∈d.ts\/∃l∈d.lits,t∈l.ts)->Nq cl vs σ s t)(hm:JI M d s):PB (L5 nm cl M) (BX nm cl vs d) 0 σ:=by
 intro i _ hi;have hi':i<d.sorted.length:=hi;have hs:=List.getElem?_eq_getElem hi';generalize d.sorted[i]=l at hs;have hl:l∈d.lits:=(d.sorted_mem l).1 (List.mem_of_getElem? hs);have hb:=DF nm cl vs d i l hs (hC.four d hd);have hn:=d.sorted_pos i l hs
 have hd':JL nm cl (Be nm cl vs l.name l.ts).n ((Be nm cl vs l.name l.ts).r.map σ) (l.put s):=by
  refine GM (hC.lit d hd l hl) hσ (fun i hi=>?_)
  cases e:AK (Ab l.ts i) with
  |true=>exact hv _ e (.inr ⟨l,hl,C2 e⟩)
  |false=>exact DP hσ.fix s e ((hC.lit d hd l hl).consts i hi e)
 rw[hb];refine⟨fun h=>⟨l.put s,(hm l hl).1 (by rw[hn];exact decide_eq_false (by show ¬_<=_;exact Nat.not_le.2 h)),hd'⟩,fun h=>?_⟩;rintro⟨a,ha,hda⟩;have hng:l.neg=true:=by rw[hn];exact decide_eq_true h
 have:a=l.put s:=by
  obtain⟨e1,_⟩:=Es (hC.lit d hd l hl) hσ (EC hS hC ha) hda
  obtain⟨e2,_⟩:=Es (hC.lit d hd l hl) hσ (a:=l.put s) (by
   show(Az s l.ts).length=ar l.name;rw[<-(hC.lit d hd l hl).ar]
   simp[Az]) hd'
  rw[e1,e2]
 exact(hm l hl).2 hng (this▸ha)
theorem IQ(hS:A1 ds M)(hC:DN ds nm cl ar){rules:List Bm}(hc:∀r∈rules,∃d∈ds,FJ nm cl d r)(hc':∀d∈ds,∃r∈rules,FJ nm cl d r):Ea rules (L5 nm cl M):=by
 refine⟨?_,?_⟩
 ·intro r hr σ hσ hm;obtain⟨d,hd,vs,hvs,hvn,rfl⟩:=hc r hr;have hlit:∀l∈d.lits,∃i,d.sorted[i]? =some l:=fun l hl=>List.getElem?_of_mem ((d.sorted_mem l).2 hl)
  have hpos:∀l∈d.lits,l.neg=false->M (l.put (DA cl vs σ))/\∀i,i<3->Nq cl vs σ (DA cl vs σ) (Ab l.ts i):=by
   intro l hl hn;obtain⟨i,hi⟩:=hlit l hl;have hlt:i<d.sorted.length:=(List.getElem?_eq_some_iff.1 hi).1;have hp:=d.sorted_pos i l hi;rw[hn]at hp;have hp:i<(BX nm cl vs d).pos:=by have:=of_decide_eq_false hp.symm;exact Nat.not_le.1 this
   obtain⟨a,ha,hda⟩:=(hm i (Nat.zero_le _) hlt).1 hp;rw[DF nm cl vs d i l hi (hC.four d hd)]at hda;obtain⟨e,hv⟩:=Es (hC.lit d hd l hl) hσ (EC hS hC ha) hda;have e:a=l.put (DA cl vs σ):=e;exact⟨e▸ha,hv⟩
  have hval:∀t,AK t=true->(t∈d.ts\/∃l∈d.lits,t∈l.ts)->Nq cl vs σ (DA cl vs σ) t:=by
   intro t hv ht
   have:∃l∈d.lits,l.neg=false/\t∈l.ts:=by
    rcases ht with ht|⟨l,hl,ht⟩
    ·exact hC.safe d hd t hv (.inl ht)
    ·cases e:l.neg with
     |false=>exact⟨l,hl,e,ht⟩
     |true=>exact hC.safe d hd t hv (.inr ⟨l,hl,e,ht⟩)
   obtain⟨l,hl,hn,ht⟩:=this;obtain⟨j,hj,rfl⟩:=El ht (hC.lit d hd l hl).len;exact(hpos l hl hn).2 j hj
  have hcw:∀(n:B8) (ts:List B8),ES nm cl ar n ts->(∀t,AK t=true->t∈ts->(t∈d.ts\/∃l∈d.lits,t∈l.ts))->JL nm cl (Be nm cl vs n ts).n ((Be nm cl vs n ts).r.map σ) (n,Az (DA cl vs σ) ts):=by
   intro n ts hw hin;refine GM hw hσ (fun i hi=>?_)
   cases e:AK (Ab ts i) with
   |true=>exact hval _ e (hin _ e (C2 e))
   |false=>exact DP hσ.fix _ e (hw.consts i hi e)
  refine⟨d.put (DA cl vs σ),hS.closed d hd _ ?_,hcw d.name d.ts (hC.head d hd) (fun t _ ht=>.inl ht)⟩;intro l hl;refine⟨fun hn=>(hpos l hl hn).1,fun hn hM=>?_⟩;obtain⟨i,hi⟩:=hlit l hl;have hlt:i<d.sorted.length:=(List.getElem?_eq_some_iff.1 hi).1;have hp:=d.sorted_pos i l hi;rw[hn]at hp;have hp:(BX nm cl vs d).pos<=i:=of_decide_eq_true hp.symm;refine(hm i (Nat.zero_le _) hlt).2 hp ⟨l.put (DA cl vs σ),hM,?_⟩;rw[DF nm cl vs d i l hi (hC.four d hd)];exact hcw l.name l.ts (hC.lit d hd l hl) (fun t _ ht=>.inr ⟨l,hl,ht⟩)
 ·intro P hP n x ⟨a,ha,hda⟩;refine hS.least (fun a=>∀n x,JL nm cl n x a->P n x) ?_ a ha n x hda;clear hda ha n x a;intro d hd s hm hp n x hx;obtain⟨r,hr,vs,hvs,hvn,rfl⟩:=hc' d hd
  let σ:Int->Int:=fun v=>if v<0 then(AR cl (s (vs.getD (-4-v).toNat [])):Nat) else v
  have hσ:JK σ:=⟨fun c hc=>if_neg (by omega),fun v=>by
   show 0<=(if v<0 then((AR cl (s (vs.getD (-4-v).toNat [])):Nat):Int) else v)
   split
   ·exact Int.natCast_nonneg _
   ·omega⟩
  have hw:=Iy hS hC hd (fun l hl e=>(hm l hl).1 e)
  have hval:∀t,AK t=true->(t∈d.ts\/∃l∈d.lits,t∈l.ts)->Nq cl vs σ s t:=by
   intro t hv ht;have hp:=CF vs t (hvs t hv ht);unfold Nq;rw[EE hv];have e:σ (-4-(AR vs t:Nat))=(AR cl (s t):Nat):=by show(if(-4-((AR vs t:Nat):Int))<0 then((AR cl (s (vs.getD (-4-(-4-((AR vs t:Nat):Int))).toNat [])):Nat):Int) else _)=_;rw[if_pos (by omega),show(-4-(-4-((AR vs t:Nat):Int))).toNat=AR vs t by omega,List.getD_eq_getElem?_getD,hp];rfl
   rw[e,show CA s t=s t by simp[CA,hv]];exact CF cl (s t) (hw t hv ht)
  have hdh:JL nm cl (BX nm cl vs d).h.n ((BX nm cl vs d).h.r.map σ) (d.put s):=by
   refine GM (hC.head d hd) hσ (fun i hi=>?_)
   cases e:AK (Ab d.ts i) with
   |true=>exact hval _ e (.inl (C2 e))
   |false=>exact DP hσ.fix s e ((hC.head d hd).consts i hi e)
  obtain⟨e1,e2⟩:=hx.same hC.ndn hC.ndc hdh;subst e1 e2;refine hP _ hr σ hσ (M1 hS hC hd hσ hval hm) ?_;intro i hi;have hlt:i<d.sorted.length:=Nat.lt_of_lt_of_le hi (by show(d.lits.filter (fun l=> !l.neg)).length<=_;unfold Ap.sorted;rw[List.length_append];omega);have hs:=List.getElem?_eq_getElem hlt;generalize d.sorted[i]=l at hs;have hl:l∈d.lits:=(d.sorted_mem l).1 (List.mem_of_getElem? hs);have hn:l.neg=false:=by rw[d.sorted_pos i l hs];exact decide_eq_false (Nat.not_le.2 hi)
  rw[DF nm cl vs d i l hs (hC.four d hd)];refine hp l hl hn _ _ (GM (hC.lit d hd l hl) hσ (fun j hj=>?_))
  cases e:AK (Ab l.ts j) with
  |true=>exact hval _ e (.inr ⟨l,hl,C2 e⟩)
  |false=>exact DP hσ.fix s e ((hC.lit d hd l hl).consts j hj e)
end
end
section
def Ls(lay:B8->Nat)(nm:List B8)(n:Int):Nat:=lay (nm.getD n.toNat [])
theorem Ja{lay:B8->Nat}{nm:List B8}{k:B8}(h:k∈nm):Ls lay nm (AR nm k:Nat)=lay k:=by unfold Ls;rw[List.getD_eq_getElem?_getD,show(((AR nm k:Nat):Int)).toNat=AR nm k from rfl,CF nm k h];rfl
theorem Js{cl vs:List B8}{t:B8}(h:AK t=false->t∈cl):BT cl vs t<(cl.length:Int)+1:=by
 unfold BT
 split
 ·omega
 ·rename_i hv;have:=Ie cl t (h (by simpa using hv));omega
theorem FF{cl vs:List B8}{t:B8}(h:BT cl vs t<0):AK t=true/\BT cl vs t= -4-(AR vs t:Nat):=by
 cases e:AK t with
 |true=>exact⟨rfl,EE e⟩
 |false=>rw[DG e]at h;omega
theorem Kx(nm cl vs:List B8)(d:Ap)(i:Nat):(∃(j:Nat) (l:AG),d.sorted[j]? =some l/\(BX nm cl vs d).b i=Be nm cl vs l.name l.ts)\/(BX nm cl vs d).b i=G4:=by
 have key:∀j,(BX nm cl vs d).b i=Dv nm cl vs d.sorted j->(∃(j:Nat) (l:AG),d.sorted[j]? =some l/\(BX nm cl vs d).b i=Be nm cl vs l.name l.ts)\/(BX nm cl vs d).b i=G4:=by
  intro j e;rw[e];unfold Dv
  cases h:d.sorted[j]? with
  |some l=>exact .inl ⟨j,l,h,rfl⟩
  |none=>exact .inr rfl
 match i with
 |0=>exact key 0 rfl
 |1=>exact key 1 rfl
 |2=>exact key 2 rfl
 |_+3=>exact key 3 rfl
theorem D6(nm cl vs:List B8)(L:List AG)(i:Nat)(h:L.length<=i):Dv nm cl vs L i=G4:=by unfold Dv;rw[List.getElem?_eq_none h]
theorem JU{ds:List Ap}{nm cl:List B8}{ar:B8->Nat}(hC:DN ds nm cl ar){lay:B8->Nat}(hl:GZ lay ds){rules:List Bm}(hc:∀r∈rules,∃d∈ds,FJ nm cl d r):Di (Ls lay nm) (nm.length:Int) ((cl.length:Int)+1) rules:=by
 have hA:∀(n:B8) (ts:List B8) (vs:List B8),ES nm cl ar n ts->∀y,(Be nm cl vs n ts).r.Has y->y<(cl.length:Int)+1/\(y<0->y<= -4):=by intro n ts vs hw y hy;obtain⟨i,hi,rfl⟩:=DX.1 hy;exact⟨Js (hw.consts i hi),fun h=>by rw[(FF h).2];omega⟩
 have hZ:∀y,G4.r.Has y->y<(cl.length:Int)+1/\(y<0->y<= -4):=by
  intro y hy
  have:y=0:=by rcases hy with h|h|h<;>exact h
  omega
 have hB:∀d∈ds,∀vs i y,((BX nm cl vs d).b i).r.Has y->y<(cl.length:Int)+1/\(y<0->y<= -4):=by
  intro d hd vs i y hy;rcases Kx nm cl vs d i with⟨j,l,hj,e⟩|e
  ·rw[e]at hy;exact hA _ _ _ (hC.lit d hd l ((d.sorted_mem l).1 (List.mem_of_getElem? hj))) y hy
  ·rw[e]at hy;exact hZ y hy
 have hcnt:∀d∈ds,d.sorted.length<=4:=fun d hd=>by rw[d.sorted_len];exact hC.four d hd
 refine⟨?_,?_,?_,?_,?_,?_⟩
 ·intro r hr;obtain⟨d,hd,vs,hvs,hvn,rfl⟩:=hc r hr;refine⟨hcnt d hd,?_,fun h=>D6 _ _ _ _ _ h,fun h=>D6 _ _ _ _ _ h,fun h=>D6 _ _ _ _ _ h,fun h=>D6 _ _ _ _ _ h⟩;show(d.lits.filter (fun l=> !l.neg)).length<=d.sorted.length;unfold Ap.sorted;rw[List.length_append];omega
 ·intro r hr;obtain⟨d,hd,vs,hvs,hvn,rfl⟩:=hc r hr;intro v hv hw
  have:∃t,AK t=true/\v=BT cl vs t/\(t∈d.ts\/∃l∈d.lits,l.neg=true/\t∈l.ts):=by
   rcases hw with hw|⟨j,h1,h2,hw⟩
   ·obtain⟨i,hi,rfl⟩:=DX.1 (show(ER cl vs d.ts).Has v from hw);have:=(FF hv).1;exact⟨_,this,rfl,.inl (C2 this)⟩
   ·have h2:j<d.sorted.length:=h2;have hs:=List.getElem?_eq_getElem h2;generalize d.sorted[j]=l at hs;rw[DF nm cl vs d j l hs (hC.four d hd)]at hw;obtain⟨i,hi,rfl⟩:=DX.1 (show(ER cl vs l.ts).Has v from hw);have:=(FF hv).1;refine⟨_,this,rfl,.inr ⟨l,(d.sorted_mem l).1 (List.mem_of_getElem? hs),?_,C2 this⟩⟩;rw[d.sorted_pos j l hs];exact decide_eq_true h1
  obtain⟨t,ht,rfl,hin⟩:=this;obtain⟨l,hl,hn,htl⟩:=hC.safe d hd t ht hin;obtain⟨i,hi⟩:=List.getElem?_of_mem ((d.sorted_mem l).2 hl);have hp:=d.sorted_pos i l hi;rw[hn]at hp;have hp:i<(BX nm cl vs d).pos:=Nat.not_le.1 (of_decide_eq_false hp.symm);refine⟨i,Nat.zero_le _,hp,?_⟩;rw[DF nm cl vs d i l hi (hC.four d hd)];obtain⟨j,hj,e⟩:=El htl (hC.lit d hd l hl).len;exact DX.2 ⟨j,hj,by rw[e]⟩
 ·intro r hr;obtain⟨d,hd,vs,hvs,hvn,rfl⟩:=hc r hr;exact⟨fun y hy=>(hA _ _ vs (hC.head d hd) y hy).1,fun i y hy=>(hB d hd vs i y hy).1⟩
 ·intro r hr;obtain⟨d,hd,vs,hvs,hvn,rfl⟩:=hc r hr;exact⟨fun y hy=>(hA _ _ vs (hC.head d hd) y hy).2,fun i y hy=>(hB d hd vs i y hy).2⟩
 ·intro r hr i hi;obtain⟨d,hd,vs,hvs,hvn,rfl⟩:=hc r hr;have h2:i<d.sorted.length:=hi;have hs:=List.getElem?_eq_getElem h2;generalize d.sorted[i]=l at hs;rw[DF nm cl vs d i l hs (hC.four d hd)];have:=Ie nm l.name (hC.lit d hd l ((d.sorted_mem l).1 (List.mem_of_getElem? hs))).name;show 0<=((AR nm l.name:Nat):Int)/\((AR nm l.name:Nat):Int)<(nm.length:Int);omega
 ·intro r hr i hi;obtain⟨d,hd,vs,hvs,hvn,rfl⟩:=hc r hr;have h2:i<d.sorted.length:=hi;have hs:=List.getElem?_eq_getElem h2;generalize d.sorted[i]=l at hs;rw[DF nm cl vs d i l hs (hC.four d hd)];have hll:=(d.sorted_mem l).1 (List.mem_of_getElem? hs);have h1:Ls lay nm (Be nm cl vs l.name l.ts).n=lay l.name:=Ja (hC.lit d hd l hll).name;have h3:Ls lay nm (BX nm cl vs d).h.n=lay d.name:=Ja (hC.head d hd).name;rw[h1,h3];have:=hl d hd l hll;have hp:=d.sorted_pos i l hs;refine⟨fun _=>by omega,fun h=>?_⟩;have hp:l.neg=true:=by rw[hp];exact decide_eq_true h
  rw[if_pos hp]at this;omega
abbrev W3:=List B8×List B8×List B8
def AA(x:List B8×List B8)(t:B8):List B8×List B8:=if AK t=true then(x.1,A7 x.2 t) else(A7 x.1 t,x.2)
def Gn(x:List B8×List B8)(ts:List B8):List B8×List B8:=AA (AA (AA x (Ab ts 0)) (Ab ts 1)) (Ab ts 2)
def Bf(x:W3)(n:B8)(ts:List B8):W3:=(A7 x.1 n,Gn x.2 ts)
def BN(x:W3)(L:List AG):W3:=L.foldl (fun x l=>Bf x l.name l.ts) x
def AL(nm cl:List B8)(d:Ap):W3:=BN (Bf (nm,cl,[]) d.name d.ts) d.sorted
theorem Fo{α:Type}[DecidableEq α](xs:List α)(k:α):xs<+:A7 xs k:=by
 unfold A7
 split
 ·exact List.prefix_refl _
 ·exact List.prefix_append _ _
theorem Fp{α:Type}[DecidableEq α](xs:List α)(k:α):k∈A7 xs k:=by
 unfold A7
 split
 ·assumption
 ·simp
theorem No{α:Type}[DecidableEq α]{xs:List α}{k x:α}(h:x∈A7 xs k):x∈xs\/x=k:=by
 unfold A7 at h
 split at h
 ·exact .inl h
 ·simpa using h
theorem D8{α:Type}[DecidableEq α]{xs:List α}(h:xs.Nodup)(k:α):(A7 xs k).Nodup:=by
 unfold A7
 split
 ·exact h
 ·rename_i hk;exact List.nodup_append.2 ⟨h,by simp,fun a ha b hb=>by simp at hb;subst hb;rintro rfl;exact hk ha⟩
theorem Gr{α:Type}[DecidableEq α]{xs ys:List α}{k:α}(h:k∈xs)(hp:xs<+:ys):AR ys k=AR xs k:=by obtain⟨zs,rfl⟩:=hp;unfold AR;rw[if_pos h,if_pos (List.mem_append.2 (.inl h)),List.idxOf_append,if_pos h]
structure Fq(x y:W3):Prop where
 a:x.1<+:y.1
 b:x.2.1<+:y.2.1
 c:x.2.2<+:y.2.2
theorem Fq.refl(x:W3):Fq x x:=⟨List.prefix_refl _,List.prefix_refl _,List.prefix_refl _⟩
theorem Fq.trans{x y z:W3}(h:Fq x y)(g:Fq y z):Fq x z:=⟨h.a.trans g.a,h.b.trans g.b,h.c.trans g.c⟩
theorem CN(x:List B8×List B8)(t:B8):x.1<+:(AA x t).1/\x.2<+:(AA x t).2:=by
 unfold AA
 split
 ·exact⟨List.prefix_refl _,Fo _ _⟩
 ·exact⟨Fo _ _,List.prefix_refl _⟩
def Ew(x:List B8×List B8)(t:B8):Prop:=(AK t=true->t∈x.2)/\(AK t=false->t∈x.1)
theorem CZ(x:List B8×List B8)(t:B8):Ew (AA x t) t:=by
 unfold AA Ew
 split
 ·rename_i h;exact⟨fun _=>Fp _ _,fun h'=>by rw[h]at h';cases h'⟩
 ·rename_i h;exact⟨fun h'=>absurd h' h,fun _=>Fp _ _⟩
theorem Ew.mono{x y:List B8×List B8}{t:B8}(h:Ew x t)(h1:x.1<+:y.1)(h2:x.2<+:y.2):Ew y t:=⟨fun e=>h2.subset (h.1 e),fun e=>h1.subset (h.2 e)⟩
theorem DW{x y:List B8×List B8}{t:B8}(h:Ew x t)(h1:x.1<+:y.1)(h2:x.2<+:y.2):BT y.1 y.2 t=BT x.1 x.2 t:=by
 unfold BT
 split
 ·rename_i e;rw[Gr (h.1 e) h2]
 ·rename_i e;rw[Gr (h.2 (by simpa using e)) h1]
theorem IY(x:List B8×List B8)(ts:List B8):x.1<+:(Gn x ts).1/\x.2<+:(Gn x ts).2:=by have h1:=CN x (Ab ts 0);have h2:=CN (AA x (Ab ts 0)) (Ab ts 1);have h3:=CN (AA (AA x (Ab ts 0)) (Ab ts 1)) (Ab ts 2);exact⟨(h1.1.trans h2.1).trans h3.1,(h1.2.trans h2.2).trans h3.2⟩
theorem JV(x:List B8×List B8)(ts:List B8):∀i,i<3->Ew (Gn x ts) (Ab ts i):=by
 have h1:=CZ x (Ab ts 0);have h2:=CZ (AA x (Ab ts 0)) (Ab ts 1);have h3:=CZ (AA (AA x (Ab ts 0)) (Ab ts 1)) (Ab ts 2);have p2:=CN (AA x (Ab ts 0)) (Ab ts 1);have p3:=CN (AA (AA x (Ab ts 0)) (Ab ts 1)) (Ab ts 2);intro i hi
 match i,hi with
 |0,_=>exact(h1.mono p2.1 p2.2).mono p3.1 p3.2
 |1,_=>exact h2.mono p3.1 p3.2
 |2,_=>exact h3
theorem Lc(x:List B8×List B8)(ts:List B8):ER (Gn x ts).1 (Gn x ts).2 ts=⟨BT (AA x (Ab ts 0)).1 (AA x (Ab ts 0)).2 (Ab ts 0),BT (AA (AA x (Ab ts 0)) (Ab ts 1)).1 (AA (AA x (Ab ts 0)) (Ab ts 1)).2 (Ab ts 1),BT (Gn x ts).1 (Gn x ts).2 (Ab ts 2)⟩:=by have h1:=CZ x (Ab ts 0);have h2:=CZ (AA x (Ab ts 0)) (Ab ts 1);have p2:=CN (AA x (Ab ts 0)) (Ab ts 1);have p3:=CN (AA (AA x (Ab ts 0)) (Ab ts 1)) (Ab ts 2);unfold ER;rw[R3.mk.injEq];exact⟨DW h1 (p2.1.trans p3.1) (p2.2.trans p3.2),DW h2 p3.1 p3.2,rfl⟩
theorem FI(x:W3)(n:B8)(ts:List B8):Fq x (Bf x n ts):=⟨Fo _ _,(IY _ _).1,(IY _ _).2⟩
theorem DU(x:W3)(L:List AG):Fq x (BN x L):=by
 unfold BN
 induction L generalizing x with
 |nil=>exact .refl x
 |cons l r ih=>exact(FI x l.name l.ts).trans (ih _)
structure CT(x:W3)(n:B8)(ts:List B8):Prop where
 n:n∈x.1
 t:∀i,i<3->Ew x.2 (Ab ts i)
theorem CT.mono{x y:W3}{n:B8}{ts:List B8}(h:CT x n ts)(hp:Fq x y):CT y n ts:=⟨hp.a.subset h.n,fun i hi=>(h.t i hi).mono hp.b hp.c⟩
theorem C5(x:W3)(n:B8)(ts:List B8):CT (Bf x n ts) n ts:=⟨Fp _ _,JV _ _⟩
theorem EF{x y:W3}{n:B8}{ts:List B8}(h:CT x n ts)(hp:Fq x y):Be y.1 y.2.1 y.2.2 n ts=Be x.1 x.2.1 x.2.2 n ts:=by unfold Be ER;rw[Gr h.n hp.a,DW (h.t 0 (by omega)) hp.b hp.c,DW (h.t 1 (by omega)) hp.b hp.c,DW (h.t 2 (by omega)) hp.b hp.c]
theorem I4(x:W3)(L:List AG):∀l∈L,CT (BN x L) l.name l.ts:=by
 unfold BN
 induction L generalizing x with
 |nil=>intro l hl;cases hl
 |cons a r ih=>
  intro l hl;rcases List.mem_cons.1 hl with rfl|hl
  ·exact(C5 x l.name l.ts).mono (DU _ r)
  ·exact ih _ l hl
structure KF(x:W3):Prop where
 a:x.1.Nodup
 b:x.2.1.Nodup
 c:x.2.2.Nodup
theorem Fv{x:List B8×List B8}(h:x.1.Nodup/\x.2.Nodup)(t:B8):(AA x t).1.Nodup/\(AA x t).2.Nodup:=by
 unfold AA
 split
 ·exact⟨h.1,D8 h.2 t⟩
 ·exact⟨D8 h.1 t,h.2⟩
theorem EI{x:W3}(h:KF x)(n:B8)(ts:List B8):KF (Bf x n ts):=by have:=Fv (Fv (Fv (x:=x.2) ⟨h.b,h.c⟩ (Ab ts 0)) (Ab ts 1)) (Ab ts 2);exact⟨D8 h.a n,this.1,this.2⟩
theorem Hq{x:W3}(h:KF x)(L:List AG):KF (BN x L):=by
 unfold BN
 induction L generalizing x with
 |nil=>exact h
 |cons l r ih=>exact ih (EI h l.name l.ts)
theorem LF{x y:W3}{d:Ap}(h:CT x d.name d.ts)(hl:∀l∈d.lits,CT x l.name l.ts)(hp:Fq x y):BX y.1 y.2.1 y.2.2 d=BX x.1 x.2.1 x.2.2 d:=by
 have k:∀i,Dv y.1 y.2.1 y.2.2 d.sorted i=Dv x.1 x.2.1 x.2.2 d.sorted i:=by
  intro i;unfold Dv
  cases e:d.sorted[i]? with
  |none=>rfl
  |some l=>exact EF (hl l ((d.sorted_mem l).1 (List.mem_of_getElem? e))) hp
 unfold BX;rw[EF h hp,k,k,k,k]
theorem Dj(x:List B8×List B8)(t:B8):(AA x t).1.length<=x.1.length+1/\(AA x t).2.length<=x.2.length+1:=by
 have:∀(xs:List B8) k,(A7 xs k).length<=xs.length+1:=by
  intro xs k;unfold A7
  split<;>simp
 unfold AA
 split
 ·exact⟨Nat.le_succ _,this _ _⟩
 ·exact⟨this _ _,Nat.le_succ _⟩
structure Ou(x y:W3)(k:Nat):Prop where
 a:y.1.length<=x.1.length+k
 b:y.2.1.length<=x.2.1.length+3*k
 c:y.2.2.length<=x.2.2.length+3*k
theorem EJ(x:W3)(n:B8)(ts:List B8):Ou x (Bf x n ts) 1:=by
 have h1:=Dj x.2 (Ab ts 0);have h2:=Dj (AA x.2 (Ab ts 0)) (Ab ts 1);have h3:=Dj (AA (AA x.2 (Ab ts 0)) (Ab ts 1)) (Ab ts 2);refine⟨?_,?_,?_⟩
 ·show(A7 x.1 n).length<=_;unfold A7
  split<;>simp
 ·show(AA (AA (AA x.2 (Ab ts 0)) (Ab ts 1)) (Ab ts 2)).1.length<=_;omega
 ·show(AA (AA (AA x.2 (Ab ts 0)) (Ab ts 1)) (Ab ts 2)).2.length<=_;omega
theorem Hr(x:W3)(L:List AG):Ou x (BN x L) L.length:=by
 unfold BN
 induction L generalizing x with
 |nil=>exact⟨by simp,by simp,by simp⟩
 |cons l r ih=>
  have h1:=EJ x l.name l.ts;have h2:=ih (Bf x l.name l.ts);refine⟨?_,?_,?_⟩
  ·have:=h1.a;have:=h2.a;simp only[List.foldl_cons,List.length_cons];omega
  ·have:=h1.b;have:=h2.b;simp only[List.foldl_cons,List.length_cons];omega
  ·have:=h1.c;have:=h2.c;simp only[List.foldl_cons,List.length_cons];omega
def Br(nm cl:List B8)(ds:List Ap):List B8×List B8:=ds.foldl (fun x d=>((AL x.1 x.2 d).1,(AL x.1 x.2 d).2.1)) (nm,cl)
def BY(nm cl:List B8):List Ap->List Bm
 |[]=>[]
 |d::r=>BX (AL nm cl d).1 (AL nm cl d).2.1 (AL nm cl d).2.2 d::BY (AL nm cl d).1 (AL nm cl d).2.1 r
theorem K9(nm cl:List B8)(d:Ap):Fq (nm,cl,[]) (AL nm cl d):=(FI _ _ _).trans (DU _ _)
theorem IX(nm cl:List B8)(d:Ap):CT (AL nm cl d) d.name d.ts/\∀l∈d.lits,CT (AL nm cl d) l.name l.ts:=
 ⟨(C5 _ _ _).mono (DU _ _),fun l hl=>I4 _ _ l ((d.sorted_mem l).2 hl)⟩
theorem Ni(nm cl:List B8)(ds:List Ap):nm<+:(Br nm cl ds).1/\cl<+:(Br nm cl ds).2:=by
 unfold Br
 induction ds generalizing nm cl with
 |nil=>exact⟨List.prefix_refl _,List.prefix_refl _⟩
 |cons d r ih=>have h:=K9 nm cl d;have h2:=ih (AL nm cl d).1 (AL nm cl d).2.1;exact⟨h.a.trans h2.1,h.b.trans h2.2⟩
theorem Nj{nm cl:List B8}(h1:nm.Nodup)(h2:cl.Nodup)(ds:List Ap):(Br nm cl ds).1.Nodup/\(Br nm cl ds).2.Nodup:=by
 unfold Br
 induction ds generalizing nm cl with
 |nil=>exact⟨h1,h2⟩
 |cons d r ih=>have h:KF (AL nm cl d):=Hq (EI (x:=(nm,cl,[])) ⟨h1,h2,List.nodup_nil⟩ d.name d.ts) d.sorted;exact ih h.a h.b
theorem Hh(ds:List Ap)(nm cl nm' cl':List B8)(h3:∀d∈ds,d.ts.length<=3/\∀l∈d.lits,l.ts.length<=3)(hn:(Br nm cl ds).1<+:nm')(hc:(Br nm cl ds).2<+:cl')(h0:nm.Nodup)(h1:cl.Nodup):
 (∀r∈BY nm cl ds,∃d∈ds,FJ nm' cl' d r)/\(∀d∈ds,∃r∈BY nm cl ds,FJ nm' cl' d r)/\∀d∈ds,(d.name∈nm'/\∀i,i<3->AK (Ab d.ts i)=false->Ab d.ts i∈cl')/\∀l∈d.lits,l.name∈nm'/\∀i,i<3->AK (Ab l.ts i)=false->Ab l.ts i∈cl':=by
 induction ds generalizing nm cl with
 |nil=>
  refine⟨?_,?_,?_⟩
  ·intro r hr;cases hr
  ·intro d hd;cases hd
  ·intro d hd;cases hd
 |cons d r ih=>
  have hn':(Br (AL nm cl d).1 (AL nm cl d).2.1 r).1<+:nm':=hn;have hc':(Br (AL nm cl d).1 (AL nm cl d).2.1 r).2<+:cl':=hc;have hk:=IX nm cl d;have hd3:KF (AL nm cl d):=Hq (EI (x:=(nm,cl,[])) ⟨h0,h1,List.nodup_nil⟩ d.name d.ts) d.sorted;obtain⟨i1,i2,i3⟩:=ih _ _ (fun d hd=>h3 d (List.mem_cons_of_mem _ hd)) hn' hc' hd3.a hd3.b;have hp0:=Ni (AL nm cl d).1 (AL nm cl d).2.1 r;have hp:Fq (AL nm cl d) (nm',cl',(AL nm cl d).2.2):=⟨hp0.1.trans hn',hp0.2.trans hc',List.prefix_refl _⟩;have h3d:=h3 d (List.mem_cons_self ..)
  have hcode:FJ nm' cl' d (BX (AL nm cl d).1 (AL nm cl d).2.1 (AL nm cl d).2.2 d):=by
   refine⟨(AL nm cl d).2.2,?_,hd3.c,(LF hk.1 hk.2 hp).symm⟩;intro t hv ht
   have key:∀(n:B8) (ts:List B8),CT (AL nm cl d) n ts->ts.length<=3->t∈ts->t∈(AL nm cl d).2.2:=by
    intro n ts hka h3 hm;obtain⟨i,hi,e⟩:=El hm h3;have:=(hka.t i hi).1 (by rw[e];exact hv)
    rwa [e]at this
   rcases ht with ht|⟨l,hl,ht⟩
   ·exact key _ _ hk.1 h3d.1 ht
   ·exact key _ _ (hk.2 l hl) (h3d.2 l hl) ht
  have hkn:∀(n:B8) (ts:List B8),CT (AL nm cl d) n ts->n∈nm'/\∀i,i<3->AK (Ab ts i)=false->Ab ts i∈cl':=by intro n ts hka;have:=hka.mono hp;exact⟨this.n,fun i hi e=>(this.t i hi).2 e⟩
  refine⟨?_,?_,?_⟩
  ·intro x hx;rcases List.mem_cons.1 hx with rfl|hx
   ·exact⟨d,List.mem_cons_self ..,hcode⟩
   ·obtain⟨d',hd',h⟩:=i1 x hx;exact⟨d',List.mem_cons_of_mem _ hd',h⟩
  ·intro x hx;rcases List.mem_cons.1 hx with rfl|hx
   ·exact⟨_,List.mem_cons_self ..,hcode⟩
   ·obtain⟨d',hd',h⟩:=i2 x hx;exact⟨d',List.mem_cons_of_mem _ hd',h⟩
  ·intro x hx;rcases List.mem_cons.1 hx with rfl|hx
   ·exact⟨hkn _ _ hk.1,fun l hl=>hkn _ _ (hk.2 l hl)⟩
   ·exact i3 x hx
def Ds(x:W3):List AG->List A4
 |[]=>[]
 |l::r=>Be (Bf x l.name l.ts).1 (Bf x l.name l.ts).2.1 (Bf x l.name l.ts).2.2 l.name l.ts::Ds (Bf x l.name l.ts) r
theorem Ez(x:W3)(L:List AG):(Ds x L).length=L.length:=by
 induction L generalizing x with
 |nil=>rfl
 |cons l r ih=>simp[Ds,ih]
theorem J8(x:W3)(L:List AG)(l:AG):BN x (L++[l])=Bf (BN x L) l.name l.ts:=by unfold BN;rw[List.foldl_append];rfl
theorem Ka(x:W3)(L:List AG)(l:AG):Ds x (L++[l])=Ds x L++[Be (Bf (BN x L) l.name l.ts).1 (Bf (BN x L) l.name l.ts).2.1 (Bf (BN x L) l.name l.ts).2.2 l.name l.ts]:=by
 induction L generalizing x with
 |nil=>rfl
 |cons a r ih=>show _::Ds _ (r++[l])=_::(Ds _ r++_);rw[ih];rfl
theorem Lo(x:W3)(L:List AG)(i:Nat)(l:AG)(h:L[i]? =some l):(Ds x L)[i]? =some (Be (BN x L).1 (BN x L).2.1 (BN x L).2.2 l.name l.ts):=by
 induction L generalizing x i with
 |nil=>simp at h
 |cons a r ih=>
  match i with
  |0=>
   injection h with h
   subst h;show some _=some _;congr 1;exact(EF (C5 x a.name a.ts) (DU (Bf x a.name a.ts) r)).symm
  |i+1=>exact ih (Bf x a.name a.ts) i h
def L6(h:A4)(xs:List A4)(pos:Nat):Bm:=⟨h,xs.getD 0 G4,xs.getD 1 G4,xs.getD 2 G4,xs.getD 3 G4,pos,xs.length⟩
theorem Lb(nm cl:List B8)(d:Ap):L6 (Be (Bf (nm,cl,[]) d.name d.ts).1 (Bf (nm,cl,[]) d.name d.ts).2.1 (Bf (nm,cl,[]) d.name d.ts).2.2 d.name d.ts) (Ds (Bf (nm,cl,[]) d.name d.ts) d.sorted) (d.lits.filter (fun l=> !l.neg)).length=BX (AL nm cl d).1 (AL nm cl d).2.1 (AL nm cl d).2.2 d:=by
 have hk:∀i,(Ds (Bf (nm,cl,[]) d.name d.ts) d.sorted).getD i G4=Dv (AL nm cl d).1 (AL nm cl d).2.1 (AL nm cl d).2.2 d.sorted i:=by
  intro i;unfold Dv;rw[List.getD_eq_getElem?_getD]
  cases e:d.sorted[i]? with
  |none=>rw[List.getElem?_eq_none (by rw[Ez];exact List.getElem?_eq_none_iff.1 e)];rfl
  |some l=>rw[Lo _ _ i l e];rfl
 have hh:=EF (C5 (nm,cl,[]) d.name d.ts) (DU (Bf (nm,cl,[]) d.name d.ts) d.sorted);unfold L6 BX;rw[hk,hk,hk,hk,Ez,<-hh];rfl
def BS(L:List AG):Bool->Nat->List AG
 |false,k=>(L.take k).filter (fun l=> !l.neg)
 |true,k=>L.filter (fun l=> !l.neg)++(L.take k).filter (fun l=>l.neg)
theorem Hx(L:List AG)(b:Bool)(k:Nat):(BS L b k).length<=L.length:=by
 have h0:∀(X:List AG),(X.filter (fun l=> !l.neg)).length+(X.filter (fun l=>l.neg)).length=X.length:=by
  intro X
  induction X with
  |nil=>rfl
  |cons l r ih=>cases h:l.neg<;>simp[h]<;>omega
 have h1:=h0 L
 cases b with
 |false=>
  have:(L.take k).length<=L.length:=by simp;omega
  exact Nat.le_trans (List.length_filter_le _ _) this
 |true=>have h2:((L.take k).filter (fun l=>l.neg)).length<=(L.filter (fun l=>l.neg)).length:=(List.Sublist.filter _ (List.take_sublist k L)).length_le;show(L.filter (fun l=> !l.neg)++(L.take k).filter (fun l=>l.neg)).length<=_;rw[List.length_append];omega
theorem Kt(L:List AG)(b:Bool)(k:Nat)(hk:k<L.length):BS L b (k+1)=if L[k].neg=b then BS L b k++[L[k]] else BS L b k:=by
 cases b with
 |false=>show(L.take (k+1)).filter _=_;rw[List.take_succ_eq_append_getElem hk,List.filter_append];cases h:L[k].neg<;>simp[h,BS]
 |true=>show L.filter _++(L.take (k+1)).filter _=_;rw[List.take_succ_eq_append_getElem hk,List.filter_append];cases h:L[k].neg<;>simp[h,BS]
end
section
def Iw(cl:List B8)(n:B8)(k:Nat)(x:R3):BA:=(n,[cl.getD x.a.toNat [],cl.getD x.b.toNat [],cl.getD x.c.toNat []].take k)
theorem JL.decB{nm cl:List B8}{n:Int}{x:R3}{a:BA}(h:JL nm cl n x a)(h3:a.2.length<=3):Iw cl a.1 a.2.length x=a:=by
 obtain⟨an,ts⟩:=a;have h0:cl.getD x.a.toNat []=Ab ts 0:=by rw[List.getD_eq_getElem?_getD,h.t0];rfl
 have h1:cl.getD x.b.toNat []=Ab ts 1:=by rw[List.getD_eq_getElem?_getD,h.t1];rfl
 have h2:cl.getD x.c.toNat []=Ab ts 2:=by rw[List.getD_eq_getElem?_getD,h.t2];rfl
 unfold Proofs.YtpbfiffgcgnidaaGreat.Iw;rw[h0,h1,h2];congr 1
 match ts,h3 with
 |[],_=>rfl
 |[_],_=>rfl
 |[_,_],_=>rfl
 |[_,_,_],_=>rfl
 |_::_::_::_::_,h3=>simp at h3
section
variable {ds:List Ap} {nm cl:List B8} {ar:B8->Nat} {M:BA->Prop}
theorem JC(hS:A1 ds M)(hC:DN ds nm cl ar){an:B8}{ats vs:List B8}(hw:ES nm cl ar an ats)(hvs:∀t,AK t=true->t∈ats->t∈vs){rows:List R3}(hn:rows.Nodup)(hr:∀x,x∈rows↔L5 nm cl M (Be nm cl vs an ats).n x/\DM (Be nm cl vs an ats).r x):
 (rows.map (Iw cl an ats.length)).Nodup/\∀h,h∈rows.map (Iw cl an ats.length)↔M h/\∃s,h=(an,Az s ats):=by
 have key:∀x∈rows,∃s,M (an,Az s ats)/\JL nm cl (Be nm cl vs an ats).n x (an,Az s ats):=by intro x hx;obtain⟨⟨a,ha,hd⟩,σ,hσ,rfl⟩:=(hr x).1 hx;obtain⟨e,_⟩:=Es hw hσ (EC hS hC ha) hd;exact⟨_,e▸ha,e▸hd⟩
 have hlen:∀s,((an,Az s ats):BA).2.length=ats.length:=fun s=>by simp[Az]
 have hdec:∀x∈rows,∀s,JL nm cl (Be nm cl vs an ats).n x (an,Az s ats)->Iw cl an ats.length x=(an,Az s ats):=by
  intro x hx s hd;have:=hd.decB (by rw[hlen];exact hw.len)
  rwa [hlen]at this
 refine⟨?_,fun h=>⟨fun hh=>?_,?_⟩⟩
 ·unfold List.Nodup;rw[List.pairwise_map];refine List.Pairwise.imp_of_mem ?_ hn;intro x y hx hy hne e;obtain⟨s,_,h1⟩:=key x hx;obtain⟨s',_,h2⟩:=key y hy;rw[hdec x hx s h1,hdec y hy s' h2]at e;rw[<-e]at h2;exact hne (h1.same hC.ndn hC.ndc h2).2
 ·obtain⟨x,hx,rfl⟩:=List.mem_map.1 hh;obtain⟨s,hM,hd⟩:=key x hx;rw[hdec x hx s hd];exact⟨hM,s,rfl⟩
 ·rintro⟨hM,s,rfl⟩;have hwd:=Fi hS hC hM
  let σ:Int->Int:=fun v=>if v<0 then(AR cl (s (vs.getD (-4-v).toNat [])):Nat) else v
  have hσ:JK σ:=⟨fun c hc=>if_neg (by omega),fun v=>by
   show 0<=(if v<0 then((AR cl (s (vs.getD (-4-v).toNat [])):Nat):Int) else v)
   split
   ·exact Int.natCast_nonneg _
   ·omega⟩
  have hd:JL nm cl (Be nm cl vs an ats).n ((Be nm cl vs an ats).r.map σ) (an,Az s ats):=by
   refine GM hw hσ (fun i hi=>?_)
   cases e:AK (Ab ats i) with
   |false=>exact DP hσ.fix s e (hw.consts i hi e)
   |true=>
    have hp:=CF vs _ (hvs _ e (C2 e));have hm:=hwd.2 i hi;rw[show((an,Az s ats):BA).2=Az s ats from rfl,C1,show CA s (Ab ats i)=s (Ab ats i) by simp[CA,e]]at hm;unfold Nq;rw[EE e];have e2:σ (-4-(AR vs (Ab ats i):Nat))=(AR cl (s (Ab ats i)):Nat):=by show(if(-4-((AR vs (Ab ats i):Nat):Int))<0 then((AR cl (s (vs.getD (-4-(-4-((AR vs (Ab ats i):Nat):Int))).toNat [])):Nat):Int) else _)=_;rw[if_pos (by omega),show(-4-(-4-((AR vs (Ab ats i):Nat):Int))).toNat=AR vs (Ab ats i) by omega,List.getD_eq_getElem?_getD,hp];rfl
    rw[e2,show CA s (Ab ats i)=s (Ab ats i) by simp[CA,e]];exact CF cl _ hm
  have hx:(Be nm cl vs an ats).r.map σ∈rows:=(hr _).2 ⟨⟨_,hM,hd⟩,σ,hσ,rfl⟩;exact List.mem_map.2 ⟨_,hx,hdec _ hx s hd⟩
end
end
end Go.Proofs.YtpbfiffgcgnidaaGreat
