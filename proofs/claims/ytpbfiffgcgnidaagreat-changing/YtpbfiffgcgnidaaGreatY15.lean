import Derived.Test.YtpbfiffgcgnidaaGreatYal
import Derived.Test.YtpbfiffgcgnidaaGreatY12
namespace Go.Proofs.YtpbfiffgcgnidaaGreat
set_option maxRecDepth 100000
set_option maxHeartbeats 4000000
set_option linter.unusedSimpArgs false
section
structure TabD where
 q:A4
 b:Nat
 rows:List R3
 fin:Bool
def sizeT(S:List TabD):Nat:=(S.map fun t=>t.rows.length).sum
structure TabD.Le(x y:TabD):Prop where
 q:y.q=x.q
 b:y.b=x.b
 rows:x.rows<+:y.rows
 fin:x.fin=true->y.fin=true
theorem TabD.Le.refl(x:TabD):x.Le x:=⟨rfl,rfl,List.prefix_refl _,id⟩
theorem TabD.Le.trans{x y z:TabD}(h:x.Le y)(g:y.Le z):x.Le z:=⟨g.q.trans h.q,g.b.trans h.b,h.rows.trans g.rows,fun e=>g.fin (h.fin e)⟩
structure Grow(S S':List TabD):Prop where
 len:S.length<=S'.length
 at':∀(i:Nat) (x:TabD),S[i]? =some x->∃y,S'[i]? =some y/\x.Le y
theorem Grow.refl(S:List TabD):Grow S S:=⟨Nat.le_refl _,fun _ x h=>⟨x,h,.refl x⟩⟩
theorem Grow.trans{S S' S'':List TabD}(h:Grow S S')(g:Grow S' S''):Grow S S'':=by refine⟨Nat.le_trans h.len g.len,fun i x hx=>?_⟩;obtain⟨y,hy,hl⟩:=h.at' i x hx;obtain⟨z,hz,hm⟩:=g.at' i y hy;exact⟨z,hz,hl.trans hm⟩
theorem Grow.tail{x y:TabD}{S S':List TabD}(h:Grow (x::S) (y::S')):Grow S S':=
 ⟨by have:=h.len;simp at this;exact this,fun i z hz=>h.at' (i+1) z hz⟩
theorem Grow.head{x y:TabD}{S S':List TabD}(h:Grow (x::S) (y::S')):x.Le y:=by
 obtain⟨z,hz,hl⟩:=h.at' 0 x rfl
 injection hz with hz
 exact hz▸hl
theorem Grow.size{S S':List TabD}(h:Grow S S'):sizeT S<=sizeT S':=by
 induction S generalizing S' with
 |nil=>exact Nat.zero_le _
 |cons x S ih=>
  cases S' with
  |nil=>have:=h.len;simp at this
  |cons y S'=>have h1:=ih h.tail;have h2:=h.head.rows.length_le;unfold sizeT at*;simp only[List.map_cons,List.sum_cons];omega
theorem Grow.same{S S':List TabD}(h:Grow S S')(he:sizeT S'=sizeT S)(i:Nat)(x y:TabD)(hx:S[i]? =some x)(hy:S'[i]? =some y):y.rows=x.rows:=by
 induction S generalizing S' i with
 |nil=>simp at hx
 |cons a S ih=>
  cases S' with
  |nil=>have:=h.len;simp at this
  |cons b S'=>
   have h1:=h.tail.size;have h2:=h.head.rows.length_le;have he':=he;unfold sizeT at he' h1;simp only[List.map_cons,List.sum_cons]at he'
   match i with
   |0=>
    injection hx with hx
    injection hy with hy
    subst hx hy;exact(h.head.rows.eq_of_length (by omega)).symm
   |i+1=>exact ih h.tail (by unfold sizeT;omega) i hx hy
theorem Grow.snoc(S:List TabD)(t:TabD):Grow S (S++[t]):=by refine⟨by simp,fun i x hx=>⟨x,?_,.refl x⟩⟩;rw[List.getElem?_append_left (List.getElem?_eq_some_iff.1 hx).1];exact hx
theorem Grow.set{S:List TabD}{i:Nat}{t u:TabD}(h:S[i]? =some t)(hl:t.Le u):Grow S (S.set i u):=by
 refine⟨by simp,fun j x hx=>?_⟩;by_cases e:i=j
 ·subst e;rw[h]at hx
  injection hx with hx
  subst hx;exact⟨u,by rw[List.getElem?_set_self (List.getElem?_eq_some_iff.1 h).1],hl⟩
 ·exact⟨x,by rw[List.getElem?_set_ne e];exact hx,.refl x⟩
def Met(M:Int->R3->Prop)(r:RuD)(p:Nat)(σ:Int->Int):Prop:=
 ∀i,p<=i->i<r.cnt->(i<r.pos->M (r.b i).n ((r.b i).r.map σ))/\(r.pos<=i->¬M (r.b i).n ((r.b i).r.map σ))
structure Stable(rules:List RuD)(M:Int->R3->Prop):Prop where
 closed:∀r∈rules,∀σ,Grd σ->Met M r 0 σ->M r.h.n (r.h.r.map σ)
 least:∀P:Int->R3->Prop,(∀r∈rules,∀σ,Grd σ->Met M r 0 σ->(∀i,i<r.pos->P (r.b i).n ((r.b i).r.map σ))->P r.h.n (r.h.r.map σ))->∀n x,M n x->P n x
def RuD.All(P:Int->Prop)(r:RuD):Prop:=(∀t,r.h.r.Has t->P t)/\∀i t,(r.b i).r.Has t->P t
theorem RuD.All.map{P P':Int->Prop}{r:RuD}(h:r.All P){f:Int->Int}(hf:∀x,P x->P' (f x)):(r.map f).All P':=by
 refine⟨fun t ht=>?_,fun i t ht=>?_⟩
 ·obtain⟨y,hy,rfl⟩:=R3.map_has.1 (show(r.h.r.map f).Has t from ht);exact hf y (h.1 y hy)
 ·rw[RuD.map_b]at ht;obtain⟨y,hy,rfl⟩:=R3.map_has.1 (show((r.b i).r.map f).Has t from ht);exact hf y (h.2 i y hy)
def Safe(r:RuD)(p:Nat):Prop:=∀v,v<0->(r.h.r.Has v\/∃j,r.pos<=j/\j<r.cnt/\(r.b j).r.Has v)->∃i,p<=i/\i<r.pos/\(r.b i).r.Has v
structure RulesOk(lay:Int->Nat)(N C:Int)(rules:List RuD):Prop where
 wf:∀r∈rules,r.Wf
 safe:∀r∈rules,Safe r 0
 small:∀r∈rules,r.All (fun t=>t<C)
 low:∀r∈rules,r.All (fun t=>t<0->t<= -4)
 names:∀r∈rules,∀i,i<r.cnt->0<=(r.b i).n/\(r.b i).n<N
 lay:∀r∈rules,∀i,i<r.cnt->(i<r.pos->lay (r.b i).n<=lay r.h.n)/\(r.pos<=i->lay (r.b i).n<lay r.h.n)
theorem holds_small{lay:Int->Nat}{N C:Int}{rules:List RuD}{M:Int->R3->Prop}(hS:Stable rules M)(hR:RulesOk lay N C rules){n:Int}{x:R3}(h:M n x):∀t,x.Has t->0<=t/\t<C:=by
 refine hS.least (fun _ x=>∀t,x.Has t->0<=t/\t<C) ?_ n x h;intro r hr σ hσ hM hP t ht;obtain⟨y,hy,rfl⟩:=R3.map_has.1 ht;refine⟨hσ.up y,?_⟩;by_cases hn:y<0
 ·obtain⟨i,_,hi,hb⟩:=hR.safe r hr y hn (.inl hy);exact(hP i hi (σ y) (R3.map_has.2 ⟨y,hb,rfl⟩)).2
 ·rw[hσ.fix y (by omega)];exact(hR.small r hr).1 y hy
theorem holds_ground{lay:Int->Nat}{N C:Int}{rules:List RuD}{M:Int->R3->Prop}(hS:Stable rules M)(hR:RulesOk lay N C rules){n:Int}{x:R3}(h:M n x):x.Ground:=fun t ht=>(holds_small hS hR h t ht).1
structure RJ(M:Int->R3->Prop)(lay:Int->Nat)(N C:Int)(q:A4)(l:Nat)(r:RuD)(p:Nat):Prop where
 wf:r.Wf
 safe:Safe r p
 sound:∀σ,Grd σ->Met M r p σ->M q.n (r.h.r.map σ)/\Inst q.r (r.h.r.map σ)
 small:r.All (fun t=>t<C)
 names:∀i,i<r.cnt->0<=(r.b i).n/\(r.b i).n<N
 lay:∀i,i<r.cnt->(i<r.pos->lay (r.b i).n<=l)/\(r.pos<=i->lay (r.b i).n<l)
def cutG(rules:List RuD)(q:A4):List RuD:=rules.filterMap fun r=>if r.h.n=q.n then fitG r r.h.r q.r else none
theorem Safe.map{r:RuD}{p p':Nat}{f:Int->Int}(h:Safe r p)(hf:FixC f)(hp:∀i y,p<=i->i<r.pos->(r.b i).r.Has y->f y<0->∃i',p'<=i'/\i'<r.pos/\(r.b i').r.Has y):Safe (r.map f) p':=by
 intro v hv hw
 have:∃y,f y=v/\(r.h.r.Has y\/∃j,r.pos<=j/\j<r.cnt/\(r.b j).r.Has y):=by
  rcases hw with hw|⟨j,h1,h2,hw⟩
  ·obtain⟨y,hy,e⟩:=R3.map_has.1 (show(r.h.r.map f).Has v from hw);exact⟨y,e,.inl hy⟩
  ·rw[RuD.map_b]at hw;obtain⟨y,hy,e⟩:=R3.map_has.1 (show((r.b j).r.map f).Has v from hw);exact⟨y,e,.inr ⟨j,h1,h2,hy⟩⟩
 obtain⟨y,rfl,hy⟩:=this;have hy0:y<0:=by apply Classical.byContradiction;intro hn;rw[hf y (by omega)]at hv;omega
 obtain⟨i,h1,h2,h3⟩:=h y hy0 hy;obtain⟨i',g1,g2,g3⟩:=hp i y h1 h2 h3 hv;exact⟨i',g1,g2,by rw[RuD.map_b];exact R3.map_has.2 ⟨y,g3,rfl⟩⟩
section
variable {M:Int->R3->Prop} {lay:Int->Nat} {N C:Int} {rules:List RuD}
theorem RJ.cut(hS:Stable rules M)(hR:RulesOk lay N C rules){q:A4}{l:Nat}{r met:RuD}(hr:r∈rules)(hn:r.h.n=q.n)(hf:fitG r r.h.r q.r=some met)(hl:lay q.n<=l)(hq:∀t,q.r.Has t->t<C):RJ M lay N C q l met 0:=by
 obtain⟨f,F⟩:=fit_some (hR.wf r hr) hf;have hm:=F.is;subst hm;refine⟨(hR.wf r hr).map F.fix,(hR.safe r hr).map F.fix (fun i y h1 h2 h3 _=>⟨i,h1,h2,h3⟩),?_,?_,?_,?_⟩
 ·intro σ hσ hM;have hg:Grd (fun x=>σ (f x)):=⟨fun c hc=>by show σ (f c)=c;rw[F.fix c hc,hσ.fix c hc],fun v=>hσ.up _⟩;refine⟨?_,fun x=>σ (f x),hg,?_⟩
  ·rw[<-hn];refine hS.closed r hr (fun x=>σ (f x)) hg ?_;intro i h1 h2;have h:=hM i h1 h2;rw[RuD.map_b]at h;exact h
  ·rw[<-R3.map_map,<-F.same];rfl
 ·exact(hR.small r hr).map (F.keep (fun t=>t<C) (hR.small r hr).1 hq)
 ·intro i hi;rw[RuD.map_b];exact hR.names r hr i hi
 ·intro i hi;rw[RuD.map_b];have h:=hR.lay r hr i hi;rw[hn]at h;exact⟨fun h1=>Nat.le_trans (h.1 h1) hl,fun h1=>Nat.lt_of_lt_of_le (h.2 h1) hl⟩
theorem RJ.cutG(hS:Stable rules M)(hR:RulesOk lay N C rules){q:A4}{l:Nat}{r:RuD}(hr:r∈cutG rules q)(hl:lay q.n<=l)(hq:∀t,q.r.Has t->t<C):RJ M lay N C q l r 0:=by
 unfold Proofs.YtpbfiffgcgnidaaGreat.cutG at hr;obtain⟨r0,h0,h1⟩:=List.mem_filterMap.1 hr
 split at h1
 ·rename_i hn;exact RJ.cut hS hR h0 hn h1 hl hq
 ·cases h1
theorem RJ.pos(hS:Stable rules M)(hR:RulesOk lay N C rules){q:A4}{l:Nat}{r met:RuD}{p:Nat}{x:R3}(h:RJ M lay N C q l r p)(hp:p<r.pos)(hx:M (r.b p).n x)(hf:fitG r (r.b p).r x=some met):RJ M lay N C q l met (p+1):=by
 obtain⟨f,F⟩:=fit_some h.wf hf;have hm:=F.is;subst hm;have hxs:=holds_small hS hR hx;have hxg:x.Ground:=holds_ground hS hR hx;have hx0:x.map f=x:=R3.map_ground F.fix hxg;refine⟨h.wf.map F.fix,h.safe.map F.fix (fun i y h1 h2 h3 h4=>?_),?_,?_,?_,?_⟩
 ·by_cases e:i=p
  ·subst e;exfalso;have:((r.b i).r.map f).Has (f y):=R3.map_has.2 ⟨y,h3,rfl⟩;rw[F.same,hx0]at this;have:=hxg _ this;omega
  ·exact⟨i,by omega,h2,h3⟩
 ·intro σ hσ hM;have hg:Grd (fun x=>σ (f x)):=⟨fun c hc=>by show σ (f c)=c;rw[F.fix c hc,hσ.fix c hc],fun v=>hσ.up _⟩;refine h.sound (fun x=>σ (f x)) hg ?_;intro i h1 h2;by_cases e:i=p
  ·subst e;refine⟨fun _=>?_,fun h3=>by omega⟩;rw[<-R3.map_map,F.same,hx0,R3.map_ground hσ.fix hxg];exact hx
  ·have h3:=hM i (by omega) h2;rw[RuD.map_b]at h3;exact h3
 ·exact h.small.map (F.keep (fun t=>t<C) (fun t ht=>h.small.2 p t ht) (fun t ht=>(hxs t ht).2))
 ·intro i hi;rw[RuD.map_b];exact h.names i hi
 ·intro i hi;rw[RuD.map_b];exact h.lay i hi
theorem RJ.groundNeg{q:A4}{l:Nat}{r:RuD}{p:Nat}(h:RJ M lay N C q l r p)(hp:r.pos<=p)(hc:p<r.cnt):(r.b p).r.Ground:=by intro t ht;apply Classical.byContradiction;intro hn;obtain⟨i,h1,h2,_⟩:=h.safe t (by omega) (.inr ⟨p,hp,hc,ht⟩);omega
theorem RJ.neg{q:A4}{l:Nat}{r:RuD}{p:Nat}(h:RJ M lay N C q l r p)(hp:r.pos<=p)(hc:p<r.cnt)(hx:¬M (r.b p).n (r.b p).r):RJ M lay N C q l r (p+1):=by
 refine⟨h.wf,?_,?_,h.small,h.names,h.lay⟩
 ·intro v hv hw;obtain⟨i,h1,h2,h3⟩:=h.safe v hv hw;omega
 ·intro σ hσ hM;refine h.sound σ hσ ?_;intro i h1 h2;by_cases e:i=p
  ·subst e;refine⟨fun h3=>by omega,fun _=>?_⟩;rw[R3.map_ground hσ.fix (h.groundNeg hp hc)];exact hx
  ·exact hM i (by omega) h2
theorem RJ.done{q:A4}{l:Nat}{r:RuD}{p:Nat}(h:RJ M lay N C q l r p)(hp:p=r.cnt):M q.n r.h.r/\Inst q.r r.h.r:=by
 have hg:r.h.r.Ground:=by intro t ht;apply Classical.byContradiction;intro hn;obtain⟨i,h1,h2,_⟩:=h.safe t (by omega) (.inl ht);have:=h.wf.pos;omega
 have h0:Grd (fun v=>if v<0 then 0 else v):=⟨fun c hc=>if_neg (by omega),fun v=>by show 0<=(if v<0 then 0 else v);split<;>omega⟩;have:=h.sound _ h0 (fun i h1 h2=>by omega)
 rwa [R3.map_ground h0.fix hg]at this
end
structure Inv(M:Int->R3->Prop)(N C:Int)(S:List TabD):Prop where
 nodup:(S.map TabD.q).Nodup
 name:∀t∈S,0<=t.q.n/\t.q.n<N
 terms:∀t∈S,∀y,t.q.r.Has y-> -3<=y/\y<C
 rows:∀t∈S,t.rows.Nodup
 sound:∀t∈S,∀x∈t.rows,M t.q.n x/\Inst t.q.r x
 full:∀t∈S,t.fin=true->∀x,M t.q.n x->Inst t.q.r x->x∈t.rows
theorem Inv.add{M:Int->R3->Prop}{N C:Int}{S:List TabD}(h:Inv M N C S){i:Nat}{t:TabD}(ht:S[i]? =some t){x:R3}(hx:x∉t.rows)(hM:M t.q.n x/\Inst t.q.r x):Inv M N C (S.set i ⟨t.q,t.b,t.rows++[x],t.fin⟩):=by
 have hm:t∈S:=List.mem_of_getElem? ht
 have hq:(S.set i ⟨t.q,t.b,t.rows++[x],t.fin⟩).map TabD.q=S.map TabD.q:=by
  rw[List.map_set];apply List.ext_getElem?;intro j;rw[List.getElem?_set]
  split
  ·rename_i e;subst e;rw[List.getElem?_map,ht];have:=(List.getElem?_eq_some_iff.1 ht).1;simp[this]
  ·rfl
 have key:∀u∈S.set i ⟨t.q,t.b,t.rows++[x],t.fin⟩,u∈S\/u=⟨t.q,t.b,t.rows++[x],t.fin⟩:=fun u hu=>List.mem_or_eq_of_mem_set hu;refine⟨hq▸h.nodup,?_,?_,?_,?_,?_⟩
 ·intro u hu;rcases key u hu with hu|rfl
  ·exact h.name u hu
  ·exact h.name t hm
 ·intro u hu;rcases key u hu with hu|rfl
  ·exact h.terms u hu
  ·exact h.terms t hm
 ·intro u hu;rcases key u hu with hu|rfl
  ·exact h.rows u hu
  ·exact List.nodup_append.2 ⟨h.rows t hm,by simp,fun a ha b hb=>by simp at hb;subst hb;rintro rfl;exact hx ha⟩
 ·intro u hu y hy;rcases key u hu with hu|rfl
  ·exact h.sound u hu y hy
  ·rcases List.mem_append.1 hy with hy|hy
   ·exact h.sound t hm y hy
   ·simp at hy;subst hy;exact hM
 ·intro u hu hf y h1 h2;rcases key u hu with hu|rfl
  ·exact h.full u hu hf y h1 h2
  ·exact List.mem_append.2 (.inl (h.full t hm hf y h1 h2))
theorem Inv.new{M:Int->R3->Prop}{N C:Int}{S:List TabD}(h:Inv M N C S){q:A4}(b:Nat)(hq:q∉S.map TabD.q)(hn:0<=q.n/\q.n<N)(ht:∀y,q.r.Has y-> -3<=y/\y<C):Inv M N C (S++[⟨q,b,[],false⟩]):=by
 have key:∀u∈S++[(⟨q,b,[],false⟩:TabD)],u∈S\/u=⟨q,b,[],false⟩:=fun u hu=>by simpa using hu
 refine⟨?_,?_,?_,?_,?_,?_⟩
 ·rw[List.map_append];exact List.nodup_append.2 ⟨h.nodup,by simp,fun a ha b hb=>by simp at hb;subst hb;rintro rfl;exact hq ha⟩
 ·intro u hu;rcases key u hu with hu|rfl
  ·exact h.name u hu
  ·exact hn
 ·intro u hu;rcases key u hu with hu|rfl
  ·exact h.terms u hu
  ·exact ht
 ·intro u hu;rcases key u hu with hu|rfl
  ·exact h.rows u hu
  ·exact List.nodup_nil
 ·intro u hu y hy;rcases key u hu with hu|rfl
  ·exact h.sound u hu y hy
  ·cases hy
 ·intro u hu hf;rcases key u hu with hu|rfl
  ·exact h.full u hu hf
  ·cases hf
def JD(M:Int->R3->Prop)(S:List TabD)(nd:List Nat):Nat->RuD->Nat->Nat->Prop
 |0,r,_,g=>∃t,S[g]? =some t/\r.h.r∈t.rows
 |k+1,r,p,g=>if p<r.pos then ∃(i:Nat) (t:TabD),S[i]? =some t/\t.q=⟨(r.b p).n,(r.b p).r.kind⟩/\(t.fin=true\/i∈nd)/\∀x∈t.rows,∀met,fitG r (r.b p).r x=some met->JD M S nd k met (p+1) g
  else M (r.b p).n (r.b p).r\/JD M S nd k r (p+1) g
theorem JD.mono{M:Int->R3->Prop}{S S':List TabD}{nd nd':List Nat}(hG:Grow S S')(he:sizeT S'=sizeT S)(hn:∀i∈nd,i∈nd'){k:Nat}{r:RuD}{p g:Nat}(h:JD M S nd k r p g):JD M S' nd' k r p g:=by
 induction k generalizing r p with
 |zero=>obtain⟨t,ht,hr⟩:=h;obtain⟨u,hu,hl⟩:=hG.at' g t ht;exact⟨u,hu,hl.rows.subset hr⟩
 |succ k ih=>
  unfold JD at h⊢
  split
  ·rename_i hp;rw[if_pos hp]at h;obtain⟨i,t,ht,hq,hf,hx⟩:=h;obtain⟨u,hu,hl⟩:=hG.at' i t ht;refine⟨i,u,hu,hl.q.trans hq,?_,?_⟩
   ·rcases hf with hf|hf
    ·exact .inl (hl.fin hf)
    ·exact .inr (hn i hf)
   ·intro x hxu met hm;rw[hG.same he i t u ht hu]at hxu;exact ih (hx x hxu met hm)
  ·rename_i hp;rw[if_neg hp]at h;rcases h with h|h
   ·exact .inl h
   ·exact .inr (ih h)
section
variable {M:Int->R3->Prop} {lay:Int->Nat} {N C:Int} {rules:List RuD}
theorem JD.use(hS:Stable rules M)(hR:RulesOk lay N C rules){S:List TabD}{nd:List Nat}(hI:Inv M N C S){σ:Int->Int}(hσ:Grd σ){P:Int->R3->Prop}(hP:∀n x,P n x->∀(i:Nat) (t:TabD),S[i]? =some t->(t.fin=true\/i∈nd)->t.q.n=n->Inst t.q.r x->x∈t.rows)
 {k:Nat}{r:RuD}{p g:Nat}(h:JD M S nd k r p g)(hk:p+k=r.cnt)(hw:r.Wf)(hM:Met M r p σ)(hp:∀i,p<=i->i<r.pos->P (r.b i).n ((r.b i).r.map σ)):∃t,S[g]? =some t/\r.h.r.map σ∈t.rows:=by
 induction k generalizing r p with
 |zero=>obtain⟨t,ht,hr⟩:=h;refine⟨t,ht,?_⟩;rw[R3.map_ground hσ.fix (hI.sound t (List.mem_of_getElem? ht) _ hr).2.ground];exact hr
 |succ k ih=>
  unfold JD at h
  split at h
  ·rename_i hlt;obtain⟨i,t,ht,hq,hf,hx⟩:=h;have h1:=hP _ _ (hp p (Nat.le_refl _) hlt) i t ht hf (by rw[hq]) (by rw[hq];exact inst_kind.2 ⟨σ,hσ,rfl⟩);have hg:((r.b p).r.map σ).Ground:=hσ.ground _;have he:(r.b p).r.map σ=((r.b p).r.map σ).map σ:=(R3.map_ground hσ.fix hg).symm
   cases hfit:fitG r (r.b p).r ((r.b p).r.map σ) with
   |none=>exact absurd he (fit_none hw hfit hσ.fix)
   |some met=>
    obtain⟨f,F⟩:=fit_some hw hfit;have hb:=F.back σ he;have hm:=F.is;subst hm;have hmap:∀y:R3,(y.map f).map σ=y.map σ:=fun y=>R3.map_congr fun t _=>hb t
    have:=ih (hx _ h1 _ hfit) (by show p+1+k=r.cnt;omega) (hw.map F.fix) (by
     intro i h1 h2;rw[RuD.map_b];show(i<r.pos->M (r.b i).n (((r.b i).r.map f).map σ))/\(r.pos<=i->¬M (r.b i).n (((r.b i).r.map f).map σ));rw[hmap]
     exact hM i (by omega) h2) (by
     intro i h1 h2;rw[RuD.map_b];show P (r.b i).n (((r.b i).r.map f).map σ);rw[hmap]
     exact hp i (by omega) h2)
    have e:(r.map f).h.r.map σ=r.h.r.map σ:=hmap r.h.r
    rwa [e]at this
  ·rename_i hge;rcases h with h|h
   ·exfalso;have h2:=(hM p (Nat.le_refl _) (by omega)).2 (by omega);rw[R3.map_ground hσ.fix (holds_ground hS hR h)]at h2;exact h2 h
   ·exact ih h (by omega) hw (fun i h1 h2=>hM i (by omega) h2) (fun i h1 h2=>hp i (by omega) h2)
theorem complete(hS:Stable rules M)(hR:RulesOk lay N C rules){S:List TabD}{nd:List Nat}(hI:Inv M N C S)(hc:∀i∈nd,∃t,S[i]? =some t/\(t.fin=true\/∀r∈cutG rules t.q,JD M S nd r.cnt r 0 i))(i:Nat)(t:TabD)(ht:S[i]? =some t)(hf:t.fin=true\/i∈nd)(x:R3)(hx:M t.q.n x)(hi:Inst t.q.r x):x∈t.rows:=by
 refine hS.least (fun n x=>∀(i:Nat) (t:TabD),S[i]? =some t->(t.fin=true\/i∈nd)->t.q.n=n->Inst t.q.r x->x∈t.rows) ?_ _ x hx i t ht hf rfl hi;clear hx hi hf ht x t i;intro r hr σ hσ hM hP i t ht hf hn hi;have hMx:=hS.closed r hr σ hσ hM;rcases hf with hf|hf
 ·exact hI.full t (List.mem_of_getElem? ht) hf _ (hn▸hMx) hi
 ·obtain⟨t',ht',hj⟩:=hc i hf;rw[ht]at ht'
  injection ht' with e
  subst e;rcases hj with hj|hj
  ·exact hI.full t (List.mem_of_getElem? ht) hj _ (hn▸hMx) hi
  ·obtain⟨τ,hτ,hτe⟩:=hi;have hw:=hR.wf r hr
   let s:Int->Int:=fun v=>if v<= -4 then σ v else τ v
   have hs:Grd s:=⟨fun c hc=>by show(if c<= -4 then σ c else τ c)=c;rw[if_neg (by omega)];exact hτ.fix c hc,fun v=>by show 0<=(if v<= -4 then σ v else τ v);split;exact hσ.up v;exact hτ.up v⟩
   have hst:∀y,(y<0->y<= -4)->s y=σ y:=by
    intro y hy;show(if y<= -4 then σ y else τ y)=σ y
    split
    ·rfl
    ·rw[hτ.fix y (by omega),hσ.fix y (by omega)]
   have hb:∀j,(r.b j).r.map s=(r.b j).r.map σ:=fun j=>R3.map_congr fun y hy=>hst y ((hR.low r hr).2 j y hy);have hh:r.h.r.map s=r.h.r.map σ:=R3.map_congr fun y hy=>hst y ((hR.low r hr).1 y hy);have hq:t.q.r.map s=t.q.r.map τ:=R3.map_congr fun y hy=>by have:=(hI.terms t (List.mem_of_getElem? ht) y hy).1;show(if y<= -4 then σ y else τ y)=τ y;rw[if_neg (by omega)]
   have he:r.h.r.map s=t.q.r.map s:=by rw[hh,hq,hτe]
   cases hfit:fitG r r.h.r t.q.r with
   |none=>exact absurd he (fit_none hw hfit hs.fix)
   |some met=>
    obtain⟨f,F⟩:=fit_some hw hfit;have hbk:=F.back s he;have hmem:met∈cutG rules t.q:=List.mem_filterMap.2 ⟨r,hr,by rw[if_pos hn.symm,hfit]⟩;have hm:=F.is;subst hm;have hmap:∀y:R3,(y.map f).map s=y.map s:=fun y=>R3.map_congr fun t _=>hbk t
    have:=JD.use hS hR hI hs (fun n x h=>h) (hj _ hmem) (by show 0+r.cnt=r.cnt;omega) (hw.map F.fix) (by
     intro j h1 h2;rw[RuD.map_b];show(j<r.pos->M (r.b j).n (((r.b j).r.map f).map s))/\(r.pos<=j->¬M (r.b j).n (((r.b j).r.map f).map s));rw[hmap,hb]
     exact hM j h1 h2) (by
     intro j h1 h2;rw[RuD.map_b];show ∀(i:Nat) (t:TabD),S[i]? =some t->(t.fin=true\/i∈nd)->t.q.n=(r.b j).n->Inst t.q.r (((r.b j).r.map f).map s)->((r.b j).r.map f).map s∈t.rows;rw[hmap,hb]
     exact hP j h2)
    obtain⟨u,hu,hur⟩:=this;rw[ht]at hu
    injection hu with e
    subst e;have e:(r.map f).h.r.map s=r.h.r.map s:=hmap r.h.r;rw[e,hh]at hur;exact hur
end
end
section
theorem count_inj{α:Type}(l:List α)(hn:l.Nodup)(code:α->Nat)(hi:∀x∈l,∀y∈l,code x=code y->x=y)(B:Nat)(hB:∀x∈l,code x<B):l.length<=B:=by
 have h1:(l.map code).Nodup:=by unfold List.Nodup;rw[List.pairwise_map];exact List.Pairwise.imp_of_mem (fun ha hb hne e=>hne (hi _ ha _ hb e)) hn
 have h2:=h1.length_le_of_subset (l₂:=List.range B) (by
  intro y hy;obtain⟨x,hx,rfl⟩:=List.mem_map.1 hy
  exact List.mem_range.2 (hB x hx))
 simpa using h2
theorem dig{K x y d e:Nat}(hd:d<K)(he:e<K)(h:x*K+d=y*K+e):x=y/\d=e:=by
 have h0:0<K:=by omega
 have h1:(x*K+d) / K=x:=by rw[Nat.mul_comm,Nat.mul_add_div h0,Nat.div_eq_of_lt hd,Nat.add_zero]
 have h2:(y*K+e) / K=y:=by rw[Nat.mul_comm,Nat.mul_add_div h0,Nat.div_eq_of_lt he,Nat.add_zero]
 have h3:x=y:=by rw[<-h1,<-h2,h]
 subst h3;exact⟨rfl,by omega⟩
theorem dig_lt{K N x d:Nat}(hx:x<N)(hd:d<K):x*K+d<N*K:=by have h1:(x+1)*K<=N*K:=Nat.mul_le_mul_right K hx;rw[Nat.add_mul,Nat.one_mul]at h1;omega
def code4(K n a b c:Nat):Nat:=((n*K+a)*K+b)*K+c
theorem code4_inj{K n a b c n' a' b' c':Nat}(ha:a<K)(hb:b<K)(hc:c<K)(ha':a'<K)(hb':b'<K)(hc':c'<K)(h:code4 K n a b c=code4 K n' a' b' c'):n=n'/\a=a'/\b=b'/\c=c':=by unfold code4 at h;obtain⟨h1,h2⟩:=dig hc hc' h;obtain⟨h3,h4⟩:=dig hb hb' h1;obtain⟨h5,h6⟩:=dig ha ha' h3;exact⟨h5,h6,h4,h2⟩
theorem code4_lt{K N n a b c:Nat}(hn:n<N)(ha:a<K)(hb:b<K)(hc:c<K):code4 K n a b c<N*K*K*K:=by unfold code4;exact dig_lt (dig_lt (dig_lt hn ha) hb) hc
theorem questions_few{M:Int->R3->Prop}{N C:Nat}{S:List TabD}(h:Inv M N C S):S.length<=N*(C+3)*(C+3)*(C+3):=by
 have hl:S.length=(S.map TabD.q).length:=by simp
 rw[hl];have hq:∀q∈S.map TabD.q,0<=q.n/\q.n<N/\ -3<=q.r.a/\q.r.a<C/\ -3<=q.r.b/\q.r.b<C/\ -3<=q.r.c/\q.r.c<C:=by intro q hq;obtain⟨t,ht,rfl⟩:=List.mem_map.1 hq;have h1:=h.name t ht;have ha:=h.terms t ht _ (.inl rfl);have hb:=h.terms t ht _ (.inr (.inl rfl));have hc:=h.terms t ht _ (.inr (.inr rfl));exact⟨h1.1,h1.2,ha.1,ha.2,hb.1,hb.2,hc.1,hc.2⟩
 refine count_inj _ h.nodup (fun q=>code4 (C+3) q.n.toNat (q.r.a+3).toNat (q.r.b+3).toNat (q.r.c+3).toNat) ?_ _ ?_
 ·intro x hx y hy e;obtain⟨x1,x2,x3,x4,x5,x6,x7,x8⟩:=hq x hx;obtain⟨y1,y2,y3,y4,y5,y6,y7,y8⟩:=hq y hy;obtain⟨e1,e2,e3,e4⟩:=code4_inj (by omega) (by omega) (by omega) (by omega) (by omega) (by omega) e;obtain⟨n,a,b,c⟩:=x;obtain⟨n',a',b',c'⟩:=y;simp only at*;have:n=n':=by omega
  have:a=a':=by omega
  have:b=b':=by omega
  have:c=c':=by omega
  subst n a b c;rfl
 ·intro x hx;obtain⟨x1,x2,x3,x4,x5,x6,x7,x8⟩:=hq x hx;exact code4_lt (by omega) (by omega) (by omega) (by omega)
theorem rows_few{M:Int->R3->Prop}{N C:Nat}{S:List TabD}(h:Inv M N C S)(hM:∀n x,M n x->∀t,x.Has t->0<=t/\t<C){t:TabD}(ht:t∈S):t.rows.length<=1*C*C*C:=by
 have hq:∀x∈t.rows,0<=x.a/\x.a<C/\0<=x.b/\x.b<C/\0<=x.c/\x.c<C:=by intro x hx;have h1:=hM _ _ (h.sound t ht x hx).1;have ha:=h1 _ (.inl rfl);have hb:=h1 _ (.inr (.inl rfl));have hc:=h1 _ (.inr (.inr rfl));exact⟨ha.1,ha.2,hb.1,hb.2,hc.1,hc.2⟩
 refine count_inj _ (h.rows t ht) (fun x=>code4 C 0 x.a.toNat x.b.toNat x.c.toNat) ?_ _ ?_
 ·intro x hx y hy e;obtain⟨x3,x4,x5,x6,x7,x8⟩:=hq x hx;obtain⟨y3,y4,y5,y6,y7,y8⟩:=hq y hy;obtain⟨e1,e2,e3,e4⟩:=code4_inj (by omega) (by omega) (by omega) (by omega) (by omega) (by omega) e;obtain⟨a,b,c⟩:=x;obtain⟨a',b',c'⟩:=y;simp only at*;have:a=a':=by omega
  have:b=b':=by omega
  have:c=c':=by omega
  subst a b c;rfl
 ·intro x hx;obtain⟨x3,x4,x5,x6,x7,x8⟩:=hq x hx;exact code4_lt (by omega) (by omega) (by omega) (by omega)
def both(q x:Int):Nat:=(4*x+(if q<0 then-q else 0)).toNat
theorem both_inj{q x q' x':Int}(hq: -3<=q)(hx:0<=x)(hq': -3<=q')(hx':0<=x')(h:0<=q->x=q)(h':0<=q'->x'=q')(e:both q x=both q' x'):q=q'/\x=x':=by
 unfold both at e
 split at e<;>split at e<;>omega
theorem both_lt{q x:Int}{C:Nat}(hq: -3<=q)(hx:0<=x)(hc:x<C):both q x<4*C:=by
 unfold both
 split<;>omega
theorem sizeT_pairs(S:List TabD):sizeT S=(S.flatMap fun t=>t.rows.map fun x=>(t.q,x)).length:=by unfold sizeT;rw[List.length_flatMap];congr 1;apply List.map_congr_left;intro t _;simp
theorem size_few{M:Int->R3->Prop}{N C:Nat}{S:List TabD}(h:Inv M N C S)(hM:∀n x,M n x->∀t,x.Has t->0<=t/\t<C):sizeT S<=N*(4*C)*(4*C)*(4*C):=by
 rw[sizeT_pairs];have hq:∀p:A4×R3,p∈(S.flatMap fun t=>t.rows.map fun x=>(t.q,x))->(0<=p.1.n/\p.1.n<N)/\(-3<=p.1.r.a/\0<=p.2.a/\p.2.a<C/\(0<=p.1.r.a->p.2.a=p.1.r.a))/\(-3<=p.1.r.b/\0<=p.2.b/\p.2.b<C/\(0<=p.1.r.b->p.2.b=p.1.r.b))/\(-3<=p.1.r.c/\0<=p.2.c/\p.2.c<C/\(0<=p.1.r.c->p.2.c=p.1.r.c)):=by intro p hp;obtain⟨t,ht,hp⟩:=List.mem_flatMap.1 hp;obtain⟨x,hx,rfl⟩:=List.mem_map.1 hp;have hs:=h.sound t ht x hx;have h1:=hM _ _ hs.1;obtain⟨σ,hσ,rfl⟩:=hs.2;have ha:=h1 _ (.inl rfl);have hb:=h1 _ (.inr (.inl rfl));have hc:=h1 _ (.inr (.inr rfl));exact⟨h.name t ht,⟨(h.terms t ht _ (.inl rfl)).1,ha.1,ha.2,hσ.fix _⟩,⟨(h.terms t ht _ (.inr (.inl rfl))).1,hb.1,hb.2,hσ.fix _⟩,⟨(h.terms t ht _ (.inr (.inr rfl))).1,hc.1,hc.2,hσ.fix _⟩⟩
 refine count_inj _ ?_ (fun p:A4×R3=>code4 (4*C) p.1.n.toNat (both p.1.r.a p.2.a) (both p.1.r.b p.2.b) (both p.1.r.c p.2.c)) ?_ _ ?_
 ·unfold List.Nodup;rw[List.pairwise_flatMap];refine⟨fun t ht=>?_,?_⟩
  ·rw[List.pairwise_map];exact(h.rows t ht).imp (fun hne e=>hne (by injection e))
  ·have hn:=h.nodup;unfold List.Nodup at hn;rw[List.pairwise_map]at hn;refine hn.imp (fun {t u} hne=>?_);intro x hx y hy;obtain⟨x1,_,rfl⟩:=List.mem_map.1 hx;obtain⟨y1,_,rfl⟩:=List.mem_map.1 hy;intro e
   injection e with e
   exact hne e
 ·intro x hx y hy e;obtain⟨⟨x1,x2⟩,⟨x3,x4,x5,x6⟩,⟨x7,x8,x9,x10⟩,⟨x11,x12,x13,x14⟩⟩:=hq x hx;obtain⟨⟨y1,y2⟩,⟨y3,y4,y5,y6⟩,⟨y7,y8,y9,y10⟩,⟨y11,y12,y13,y14⟩⟩:=hq y hy;obtain⟨e1,e2,e3,e4⟩:=code4_inj (both_lt x3 x4 x5) (both_lt x7 x8 x9) (both_lt x11 x12 x13) (both_lt y3 y4 y5) (both_lt y7 y8 y9) (both_lt y11 y12 y13) e;have f2:=both_inj x3 x4 y3 y4 x6 y6 e2;have f3:=both_inj x7 x8 y7 y8 x10 y10 e3;have f4:=both_inj x11 x12 y11 y12 x14 y14 e4;obtain⟨⟨n,a,b,c⟩,⟨u,v,w⟩⟩:=x;obtain⟨⟨n',a',b',c'⟩,⟨u',v',w'⟩⟩:=y;simp only at*;have:n=n':=by omega
  obtain⟨f5,f6⟩:=f2;obtain⟨f7,f8⟩:=f3;obtain⟨f9,f10⟩:=f4;subst n a u b v c w;rfl
 ·intro x hx;obtain⟨⟨x1,x2⟩,⟨x3,x4,x5,x6⟩,⟨x7,x8,x9,x10⟩,⟨x11,x12,x13,x14⟩⟩:=hq x hx;exact code4_lt (by omega) (both_lt x3 x4 x5) (both_lt x7 x8 x9) (both_lt x11 x12 x13)
structure Lim(N C:Nat):Prop where
 q:N*(C+3)*(C+3)*(C+3)<=100000000000
 r:1*C*C*C<=100000000000
 s:N*(4*C)*(4*C)*(4*C)<=100000000000000
 n:N<=100000000000
 c:C<=100000000000
theorem Inv.setFin{M:Int->R3->Prop}{N C:Int}{S:List TabD}(h:Inv M N C S){i:Nat}{t:TabD}(ht:S[i]? =some t)(hf:∀x,M t.q.n x->Inst t.q.r x->x∈t.rows):Inv M N C (S.set i ⟨t.q,t.b,t.rows,true⟩):=by
 have hm:t∈S:=List.mem_of_getElem? ht
 have hq:(S.set i ⟨t.q,t.b,t.rows,true⟩).map TabD.q=S.map TabD.q:=by
  rw[List.map_set];apply List.ext_getElem?;intro j;rw[List.getElem?_set]
  split
  ·rename_i e;subst e;rw[List.getElem?_map,ht];have:=(List.getElem?_eq_some_iff.1 ht).1;simp[this]
  ·rfl
 have key:∀u∈S.set i ⟨t.q,t.b,t.rows,true⟩,u∈S\/u=⟨t.q,t.b,t.rows,true⟩:=fun u hu=>List.mem_or_eq_of_mem_set hu;refine⟨hq▸h.nodup,?_,?_,?_,?_,?_⟩
 ·intro u hu;rcases key u hu with hu|rfl
  ·exact h.name u hu
  ·exact h.name t hm
 ·intro u hu;rcases key u hu with hu|rfl
  ·exact h.terms u hu
  ·exact h.terms t hm
 ·intro u hu;rcases key u hu with hu|rfl
  ·exact h.rows u hu
  ·exact h.rows t hm
 ·intro u hu;rcases key u hu with hu|rfl
  ·exact h.sound u hu
  ·exact h.sound t hm
 ·intro u hu hfu;rcases key u hu with hu|rfl
  ·exact h.full u hu hfu
  ·exact hf
theorem sizeT_set{S:List TabD}{i:Nat}{t u:TabD}(h:S[i]? =some t):sizeT (S.set i u)+t.rows.length=sizeT S+u.rows.length:=by
 unfold sizeT
 induction S generalizing i with
 |nil=>simp at h
 |cons x S ih=>
  match i with
  |0=>
   injection h with h
   subst h;simp only[List.set_cons_zero,List.map_cons,List.sum_cons];omega
  |i+1=>have:=ih (i:=i) h;simp only[List.set_cons_succ,List.map_cons,List.sum_cons];omega
theorem sizeT_snoc(S:List TabD)(t:TabD):sizeT (S++[t])=sizeT S+t.rows.length:=by unfold sizeT;simp
theorem map_q_set{S:List TabD}{i:Nat}{t u:TabD}(h:S[i]? =some t)(hq:u.q=t.q):(S.set i u).map TabD.q=S.map TabD.q:=by
 rw[List.map_set];apply List.ext_getElem?;intro j;rw[List.getElem?_set]
 split
 ·rename_i e;subst e;rw[List.getElem?_map,h];have:=(List.getElem?_eq_some_iff.1 h).1;simp[this,hq]
 ·rfl
theorem ground_rows{M:Int->R3->Prop}{N C:Int}{S:List TabD}(h:Inv M N C S){t:TabD}(ht:t∈S)(hf:t.fin=true){a:A4}(hq:t.q=⟨a.n,a.r.kind⟩)(hg:a.r.Ground):0<t.rows.length↔M a.n a.r:=by
 have hi:∀x,Inst t.q.r x->x=a.r:=by intro x hx;rw[hq]at hx;obtain⟨σ,hσ,rfl⟩:=inst_kind.1 hx;exact R3.map_ground hσ.fix hg
 constructor
 ·intro hl;obtain⟨x,hx⟩:=List.exists_mem_of_length_pos hl;have hs:=h.sound t ht x hx;have e:=hi x hs.2;subst e;have:=hs.1;rw[hq]at this;exact this
 ·intro hM;have h0:Grd (fun v=>if v<0 then 0 else v):=⟨fun c hc=>if_neg (by omega),fun v=>by show 0<=(if v<0 then 0 else v);split<;>omega⟩;have:=h.full t ht hf a.r (by rw[hq];exact hM) (by rw[hq];exact inst_kind.2 ⟨_,h0,R3.map_ground h0.fix hg⟩);exact List.length_pos_of_mem this
theorem fin_rows{M:Int->R3->Prop}{N C:Int}{S:List TabD}(h:Inv M N C S){t:TabD}(ht:t∈S)(hf:t.fin=true){a:A4}(hq:t.q=⟨a.n,a.r.kind⟩):t.rows.Nodup/\∀x,x∈t.rows↔M a.n x/\Inst a.r x:=by
 refine⟨h.rows t ht,fun x=>⟨fun hx=>?_,fun hx=>?_⟩⟩
 ·have hs:=h.sound t ht x hx;rw[hq]at hs;exact⟨hs.1,inst_kind.1 hs.2⟩
 ·exact h.full t ht hf x (by rw[hq];exact hx.1) (by rw[hq];exact inst_kind.2 hx.2)
end
end Go.Proofs.YtpbfiffgcgnidaaGreat
