import Derived.Test.YtpbfiffgcgnidaaGreatDoorYal
import Derived.Test.YtpbfiffgcgnidaaGreatDoorY13
import Derived.Test.YtpbfiffgcgnidaaGreatDoorY19
namespace Go.Proofs.YtpbfiffgcgnidaaGreatDoor
set_option maxRecDepth 100000
set_option maxHeartbeats 4000000
set_option linter.unusedSimpArgs false
open Go.Proofs.Tryz
section
abbrev GV:=List (B8×B8)
def IU:GV->B8->Option B8
 |[],_=>none
 |p::r,v=>if p.1=v then some p.2 else IU r v
def Fb:GV->List RT->List B8->Option GV
 |g,[],_=>some g
 |_,_::_,[]=>none
 |g,t::ts,x::xs=>
  if t.var=true then
   match IU g t.s with
   |some u=>if u=x then Fb g ts xs else none
   |none=>Fb (g++[(t.s,x)]) ts xs
  else if t.s=x then Fb g ts xs else none
def Gy(g:GV)(a:RA)(b:BA):Option GV:=if a.name=b.1/\a.ts.length=b.2.length then Fb g a.ts b.2 else none
def Ic(g:GV)(t:RT):B8:=if t.var=true then(IU g t.s).getD [] else t.s
def FE(g:GV)(a:RA):BA:=(a.name,a.ts.map (Ic g))
def Ib(H:List BA):List RA->GV->List GV
 |[],g=>[g]
 |a::r,g=>if a.neg=true then Ib H r g else H.flatMap fun b=>match Gy g a b with
  |some g'=>Ib H r g'
  |none=>[]
def gW(H:List BA)(c:RC)(g:GV):Bool:=c.body.any fun a=>a.neg&&decide (FE g a∈H)
def VG(H:List BA)(c:RC)(g:GV):List BA:=if gW H c g=true then [] else [FE g c.head]
def FP(H:List BA)(c:RC)(rest:List RA)(g:GV):List BA:=(Ib H rest g).flatMap (VG H c)
theorem bN(H:List BA)(c:RC)(g:GV):FP H c [] g=VG H c g:=by simp[FP,Ib]
theorem bO(H:List BA)(c:RC)(a:RA)(r:List RA)(g:GV)(h:a.neg=true):FP H c (a::r) g=FP H c r g:=by simp[FP,Ib,h]
def J9(H:List BA)(c:RC)(a:RA)(r:List RA)(g:GV)(b:BA):List BA:=match Gy g a b with
 |some g'=>FP H c r g'
 |none=>[]
theorem bM(H:List BA)(c:RC)(a:RA)(r:List RA)(g:GV)(h:a.neg=false):FP H c (a::r) g=H.flatMap (J9 H c a r g):=by
 simp only[FP,Ib,h,An,AM,List.flatMap_assoc];congr 1
 funext b
 unfold J9;cases Gy g a b<;>simp[FP]
theorem Nv{g h:GV}{v u:B8}(e:IU g v=some u):IU (g++h) v=some u:=by
 induction g with
 |nil=>simp[IU]at e
 |cons p r j=>
  rw[List.cons_append,IU];rw[IU]at e
  split
  ·rename_i q;rw[Ai q]at e;exact e
  ·rename_i q;rw[Af q]at e;exact j e
theorem eY{g:GV}{v u:B8}(e:IU g v=none):IU (g++[(v,u)]) v=some u:=by
 induction g with
 |nil=>simp[IU]
 |cons p r j=>
  rw[List.cons_append,IU];rw[IU]at e
  split
  ·rename_i q;rw[Ai q]at e;simp at e
  ·rename_i q;rw[Af q]at e;exact j e
theorem ZJ{g:GV}{v:B8}:IU g v=none↔v∉g.map Prod.fst:=by
 induction g with
 |nil=>simp[IU]
 |cons p r j=>
  rw[IU,A6,Br];by_cases q:p.1=v
  ·rw[Ai q];simp[q]
  ·rw[Af q,j];constructor
   ·rintro h (e|e)
    ·exact q e.symm
    ·exact h e
   ·intro h e;exact h (.inr e)
theorem Rl{g:GV}{v u:B8}(e:IU g v=some u):(v,u)∈g:=by
 induction g with
 |nil=>simp[IU]at e
 |cons p r j=>
  rw[IU]at e
  split at e
  ·rename_i q;simp at e;rw[<-q,<-e];simp
  ·exact E4 _ (j e)
theorem TJ{ts:List RT}:∀{g:GV} {xs:List B8} {g':GV},Fb g ts xs=some g'->∃h,g'=g++h:=by
 induction ts with
 |nil=>intro g xs g' e;simp[Fb]at e;exact⟨[],by simp[e]⟩
 |cons t ts q=>
  intro g xs g' e
  cases xs with
  |nil=>simp[Fb]at e
  |cons x xs=>
   rw[Fb]at e
   split at e
   ·split at e
    ·split at e
     ·exact q e
     ·simp at e
    ·obtain⟨h,rfl⟩:=q e;exact⟨_,Bm _ _ _⟩
   ·split at e
    ·exact q e
    ·simp at e
theorem Vw{ts:List RT}:∀{g:GV} {xs:List B8} {g':GV},Fb g ts xs=some g'->ts.length=xs.length->ts.map (Ic g')=xs/\∀t∈ts,t.var=true->(IU g' t.s).isSome=true:=by
 induction ts with
 |nil=>intro g xs g' e d;cases xs<;>simp_all
 |cons t ts f=>
  intro g xs g' e d
  cases xs with
  |nil=>simp at d
  |cons x xs=>
   have r:ts.length=xs.length:=by simpa using d
   rw[Fb]at e
   have j:∀v,Fb v ts xs=some g'->(t.var=true->IU v t.s=some x)->(t.var=false->t.s=x)->(t::ts).map (Ic g')=x::xs/\∀y∈t::ts,y.var=true->(IU g' y.s).isSome=true:=by
    intro v n q hc;obtain⟨h1,h2⟩:=f n r;obtain⟨h,rfl⟩:=TJ n;refine⟨?_,?_⟩
    ·rw[A6,h1];congr 1;unfold Ic
     split
     ·rename_i b;rw[Nv (q b)];rfl
     ·rename_i b;exact hc (by simpa using b)
    ·intro y m k;rcases List.mem_cons.1 m with rfl|m
     ·rw[Nv (q k)];rfl
     ·exact h2 y m k
   split at e
   ·rename_i q
    split at e
    ·rename_i u p
     split at e
     ·rename_i c;exact j g e (fun _=>by rw[p,c]) (fun z=>by rw[q]at z;simp at z)
     ·simp at e
    ·rename_i p;exact j _ e (fun _=>eY p) (fun z=>by rw[q]at z;simp at z)
   ·rename_i q
    split at e
    ·rename_i hx;exact j g e (fun h=>absurd h q) (fun _=>hx)
    ·simp at e
def lS(g:GV)(s:B8->B8):Prop:=∀p∈g,s p.1=p.2
def UJ(s:B8->B8)(t:RT):B8:=if t.var=true then s t.s else t.s
def KL(s:B8->B8)(a:RA):BA:=(a.name,a.ts.map (UJ s))
theorem PE{s:B8->B8}{ts:List RT}:∀{g:GV},lS g s->∃g',Fb g ts (ts.map (UJ s))=some g'/\lS g' s:=by
 induction ts with
 |nil=>intro g h;exact⟨g,rfl,h⟩
 |cons t ts z=>
  intro g h;rw[A6,Fb]
  split
  ·rename_i j;have e:UJ s t=s t.s:=by unfold UJ;rw[Ai j]
   split
   ·rename_i u y;have:=h _ (Rl y);simp only[]at this;rw[Ai (by rw[e,this])];exact z h
   ·refine z ?_;intro p q;rcases List.mem_append.1 q with q|q
    ·exact h p q
    ·simp at q;subst q;exact e.symm
  ·rename_i j;rw[Ai (by unfold UJ;rw[Af j])];exact z h
theorem TN{s:B8->B8}{g:GV}(h:lS g s)(a:RA)(j:∀t∈a.ts,t.var=true->(IU g t.s).isSome=true):FE g a=KL s a:=by
 unfold FE KL;congr 1;apply Ek;intro t ht;unfold Ic UJ
 split
 ·rename_i z;obtain⟨u,q⟩:=Option.isSome_iff_exists.1 (j t ht z);rw[q];exact(h _ (Rl q)).symm
 ·rfl
theorem bD{g h:GV}(a:RA)(j:∀t∈a.ts,t.var=true->(IU g t.s).isSome=true):FE (g++h) a=FE g a:=by
 unfold FE;congr 1;apply Ek;intro t ht;unfold Ic
 split
 ·rename_i z;obtain⟨u,q⟩:=Option.isSome_iff_exists.1 (j t ht z);rw[q,Nv q]
 ·rfl
theorem Jv{g g':GV}{a:RA}{b:BA}(e:Gy g a b=some g'):FE g' a=b/\(∃h,g'=g++h)/\∀t∈a.ts,t.var=true->(IU g' t.s).isSome=true:=by
 unfold Gy at e
 split at e
 ·rename_i q;obtain⟨h1,h2⟩:=Vw e q.2;exact⟨by unfold FE;rw[h1,q.1],TJ e,h2⟩
 ·simp at e
theorem KU{s:B8->B8}{g:GV}(h:lS g s)(a:RA):∃g',Gy g a (KL s a)=some g'/\lS g' s:=by unfold Gy KL;rw[Ai ⟨rfl,by simp⟩];exact PE h
theorem Ju(H:List BA){rest:List RA}:∀{g g':GV},g'∈Ib H rest g->(∃h,g'=g++h)/\∀a∈rest,a.neg=false->FE g' a∈H/\∀t∈a.ts,t.var=true->(IU g' t.s).isSome=true:=by
 induction rest with
 |nil=>intro g g' h;simp[Ib]at h;subst h;exact⟨⟨[],by simp⟩,by simp⟩
 |cons a r z=>
  intro g g' h;rw[Ib]at h
  split at h
  ·rename_i hn;obtain⟨h1,h2⟩:=z h;refine⟨h1,?_⟩;intro x hx q;rcases List.mem_cons.1 hx with rfl|hx
   ·rw[hn]at q;simp at q
   ·exact h2 x hx q
  ·obtain⟨b,hb,h⟩:=List.mem_flatMap.1 h
   split at h
   ·rename_i g1 e;obtain⟨⟨h1,y⟩,h2⟩:=z h;obtain⟨f1,⟨h3,k⟩,j⟩:=Jv e;subst y;refine⟨⟨h3++h1,by rw[k,Bm]⟩,?_⟩;intro x hx q;rcases List.mem_cons.1 hx with rfl|hx
    ·refine⟨by rw[bD x j,f1];exact hb,?_⟩;intro t ht d;obtain⟨u,v⟩:=Option.isSome_iff_exists.1 (j t ht d);rw[Nv v];rfl
    ·exact h2 x hx q
   ·simp at h
theorem PD(H:List BA){s:B8->B8}{rest:List RA}:∀{g:GV},lS g s->(∀a∈rest,a.neg=false->KL s a∈H)->∃g'∈Ib H rest g,lS g' s:=by
 induction rest with
 |nil=>intro g h _;exact⟨g,by simp[Ib],h⟩
 |cons a r j=>
  intro g h q;rw[Ib]
  split
  ·exact j h (fun x hx=>q x (by simp[hx]))
  ·rename_i hn;obtain⟨g1,z,h1⟩:=KU h a;obtain⟨g2,y,h2⟩:=j h1 (fun x hx=>q x (by simp[hx]));refine⟨g2,List.mem_flatMap.2 ⟨KL s a,q a (by simp) (by simpa using hn),?_⟩,h2⟩;rw[z];exact y
def mA(g:GV)(v:B8):B8:=(IU g v).getD []
theorem bC(g:GV)(a:RA):FE g a=KL (mA g) a:=rfl
theorem VF{H:List BA}{c:RC}{b:BA}(h:b∈FP H c c.body []):∃s,(∀a∈c.body,a.neg=false->KL s a∈H)/\(∀a∈c.body,a.neg=true->KL s a∉H)/\b=KL s c.head:=by
 obtain⟨g,z,hb⟩:=List.mem_flatMap.1 h;unfold VG at hb
 split at hb
 ·simp at hb
 ·rename_i q;simp at hb;obtain⟨_,h2⟩:=Ju H z;refine⟨mA g,fun a j hn=>(h2 a j hn).1,?_,hb⟩;intro a j hn y;apply q;unfold gW;rw[Ey];exact⟨a,j,by rw[hn,BD];exact Bq y⟩
def Uq(c:RC):Prop:=∀t:RT,t.var=true->(t∈c.head.ts\/∃a∈c.body,a.neg=true/\t∈a.ts)->∃a∈c.body,a.neg=false/\∃t'∈a.ts,t'.var=true/\t'.s=t.s
theorem PG{H:List BA}{c:RC}(hs:Uq c){s:B8->B8}(k:∀a∈c.body,a.neg=false->KL s a∈H)(hn:∀a∈c.body,a.neg=true->KL s a∉H):KL s c.head∈FP H c c.body []:=by
 obtain⟨g,b,y⟩:=PD H (rest:=c.body) (g:=[]) (s:=s) (by intro p k;simp at k) k;obtain⟨_,h2⟩:=Ju H b;have d:∀t:RT,t.var=true->(t∈c.head.ts\/∃a∈c.body,a.neg=true/\t∈a.ts)->(IU g t.s).isSome=true:=by intro t z r;obtain⟨a,y,j,t',v,u,e⟩:=hs t z r;rw[<-e];exact(h2 a y j).2 t' v u
 refine List.mem_flatMap.2 ⟨g,b,?_⟩;have hb:gW H c g=false:=by unfold gW;rw[YZ];intro a q hc;rw[Cp]at hc;have:=BV hc.2;rw[TN y a (fun t ht z=>d t z (.inr ⟨a,q,hc.1,ht⟩))]at this;exact hn a q hc.1 this
 unfold VG;rw[hb];simp only[An,AM,A7];exact(TN y c.head (fun t ht z=>d t z (.inl ht))).symm
def Qj(ks:List B8)(ts:List RT):List B8:=ts.foldl (fun ks t=>if t.var=true/\t.s∉ks then ks++[t.s] else ks) ks
def KT:List B8->List RA->List B8
 |ks,[]=>ks
 |ks,a::r=>if a.neg=true then KT ks r else KT (Qj ks a.ts) r
theorem Ye{ts:List RT}:∀{g:GV} {xs:List B8} {g':GV},Fb g ts xs=some g'->g'.map Prod.fst=Qj (g.map Prod.fst) ts:=by
 induction ts with
 |nil=>intro g xs g' e;simp[Fb]at e;subst e;rfl
 |cons t ts z=>
  intro g xs g' e
  cases xs with
  |nil=>simp[Fb]at e
  |cons x xs=>
   rw[Fb]at e;show _=Qj (if t.var=true/\t.s∉g.map Prod.fst then g.map Prod.fst++[t.s] else g.map Prod.fst) ts
   split at e
   ·rename_i j
    split at e
    ·rename_i u q;have y:t.s∈g.map Prod.fst:=List.mem_map.2 ⟨_,Rl q,rfl⟩;rw[Af (fun h=>h.2 y)]
     split at e
     ·exact z e
     ·simp at e
    ·rename_i q;rw[Ai ⟨j,ZJ.1 q⟩];have:=z e
     rwa [A8]at this
   ·rename_i j;rw[Af (fun h=>j h.1)]
    split at e
    ·exact z e
    ·simp at e
theorem Mr{g g':GV}{a:RA}{b:BA}(e:Gy g a b=some g'):g'.map Prod.fst=Qj (g.map Prod.fst) a.ts:=by
 unfold Gy at e
 split at e
 ·exact Ye e
 ·simp at e
theorem Mq(H:List BA){rest:List RA}:∀{g g':GV},g'∈Ib H rest g->g'.map Prod.fst=KT (g.map Prod.fst) rest:=by
 induction rest with
 |nil=>intro g g' h;simp[Ib]at h;subst h;rfl
 |cons a r q=>
  intro g g' h;rw[Ib]at h;rw[KT]
  split at h
  ·rename_i hn;rw[Ai hn];exact q h
  ·rename_i hn;rw[Af hn];obtain⟨b,hb,h⟩:=List.mem_flatMap.1 h
   split at h
   ·rename_i g1 e;rw[q h,Mr e]
   ·simp at h
theorem Vu{H:List BA}(p:H.Nodup){rest:List RA}:∀{g:GV},(Ib H rest g).Nodup:=by
 induction rest with
 |nil=>intro g;simp[Ib]
 |cons a r t=>
  intro g;rw[Ib]
  split
  ·exact t
  ·unfold List.Nodup;rw[List.pairwise_flatMap];refine⟨?_,?_⟩
   ·intro b _
    split
    ·exact t
    ·exact List.Pairwise.nil
   ·refine p.imp ?_;intro b b' j x hx y k z;subst z
    split at hx
    ·rename_i d v
     split at k
     ·rename_i g2 u;obtain⟨⟨h1,m⟩,_⟩:=Ju H hx;obtain⟨⟨h2,n⟩,_⟩:=Ju H k;have c:d.map Prod.fst=g2.map Prod.fst:=by rw[Mr v,Mr u]
      have q:d.length=g2.length:=by simpa using Bl List.length c
      have:=(List.append_inj (m.symm.trans n) q).1;subst this;exact j ((Jv v).1.symm.trans (Jv u).1)
     ·simp at k
    ·simp at hx
theorem Yd{K:List B8}{ts:List RT}:∀{g:GV} {xs:List B8} {g':GV},Fb g ts xs=some g'->(∀p∈g,p.2∈K)->(∀x∈xs,x∈K)->∀p∈g',p.2∈K:=by
 induction ts with
 |nil=>intro g xs g' e h _;simp[Fb]at e;subst e;exact h
 |cons t ts z=>
  intro g xs g' e h hx
  cases xs with
  |nil=>simp[Fb]at e
  |cons x xs=>
   rw[Fb]at e;have q:∀y∈xs,y∈K:=fun y k=>hx y (by simp[k])
   split at e
   ·split at e
    ·split at e
     ·exact z e h q
     ·simp at e
    ·refine z e ?_ q;intro p j;rcases List.mem_append.1 j with j|j
     ·exact h p j
     ·simp at j;subst j;exact hx x (by simp)
   ·split at e
    ·exact z e h q
    ·simp at e
theorem X8{K:List B8}{H:List BA}(z:∀b∈H,∀x∈b.2,x∈K){rest:List RA}:∀{g g':GV},(∀p∈g,p.2∈K)->g'∈Ib H rest g->∀p∈g',p.2∈K:=by
 induction rest with
 |nil=>intro g g' h q;simp[Ib]at q;subst q;exact h
 |cons a r j=>
  intro g g' h q;rw[Ib]at q
  split at q
  ·exact j h q
  ·obtain⟨b,hb,q⟩:=List.mem_flatMap.1 q
   split at q
   ·rename_i g1 e;refine j ?_ q;unfold Gy at e
    split at e
    ·exact Yd e h (z b hb)
    ·simp at e
   ·simp at q
def KY(K:List B8):Nat->List (List B8)
 |0=>[[]]
 |m+1=>K.flatMap fun x=>(KY K m).map (x:: ·)
theorem NK(K:List B8)(m:Nat):(KY K m).length=K.length ^ m:=by
 induction m with
 |zero=>rfl
 |succ m q=>rw[KY,List.length_flatMap];simp only[AK,q];rw[List.map_const',List.sum_replicate_nat,Nat.pow_succ,YX]
theorem NJ{K:List B8}:∀{m:Nat} {xs:List B8},xs∈KY K m↔xs.length=m/\∀x∈xs,x∈K:=by
 intro m
 induction m with
 |zero=>intro xs;simp[KY];intro h;subst h;simp
 |succ m j=>
  intro xs;rw[KY,C5];constructor
  ·rintro⟨x,hx,h⟩;obtain⟨ys,q,rfl⟩:=List.mem_map.1 h;obtain⟨h1,h2⟩:=j.1 q;exact⟨by simp[h1],by intro y q;rcases List.mem_cons.1 q with rfl|q;exact hx;exact h2 y q⟩
  ·rintro⟨h1,h2⟩
   cases xs with
   |nil=>simp at h1
   |cons x ys=>exact⟨x,h2 x (by simp),List.mem_map.2 ⟨ys,j.2 ⟨by simpa using h1,fun y q=>h2 y (by simp[q])⟩,rfl⟩⟩
theorem ZD:∀{g g':GV},g.map Prod.fst=g'.map Prod.fst->g.map Prod.snd=g'.map Prod.snd->g=g':=by
 intro g
 induction g with
 |nil=>intro g' h _;cases g'<;>simp_all
 |cons p r j=>
  intro g' h1 h2
  cases g' with
  |nil=>simp at h1
  |cons q r'=>simp only[A6,Pk]at h1 h2;rw[j h1.2 h2.2,Prod.ext h1.1 h2.1]
theorem aQ{K:List B8}{H:List BA}(hn:H.Nodup)(z:∀b∈H,∀x∈b.2,x∈K)(rest:List RA):(Ib H rest []).length<=K.length ^ (KT [] rest).length:=by
 have h1:((Ib H rest []).map fun g=>g.map Prod.snd).Nodup:=by unfold List.Nodup;rw[IT];refine MN ?_ (Vu hn);intro a b y hb q e;exact q (ZD ((Mq H y).trans (Mq H hb).symm) e)
 rw[<-NK,<-AK (f:=fun g:GV=>g.map Prod.snd)];refine h1.length_le_of_subset ?_;intro xs hx;obtain⟨g,j,rfl⟩:=List.mem_map.1 hx;refine NJ.2 ⟨?_,?_⟩
 ·have:=Bl List.length (Mq H j);simpa using this
 ·intro x hx;obtain⟨p,k,rfl⟩:=List.mem_map.1 hx;exact X8 z (by simp) j p k
theorem bQ(H:List BA)(c:RC)(g:GV):(VG H c g).length<=1:=by unfold VG;split<;>simp
theorem gM{α β:Type}(l:List α)(f:α->List β)(h:∀a∈l,(f a).length<=1):(l.flatMap f).length<=l.length:=by
 induction l with
 |nil=>simp
 |cons a l q=>rw[Cg,Am,List.length_cons];have:=h a (by simp);have:=q (fun x hx=>h x (by simp[hx]));omega
theorem bP{K:List B8}{H:List BA}(hn:H.Nodup)(q:∀b∈H,∀x∈b.2,x∈K)(c:RC)(rest:List RA):(FP H c rest []).length<=K.length ^ (KT [] rest).length:=
 Ay (gM _ _ (fun g _=>bQ H c g)) (aQ hn q rest)
end
section
attribute [local go_sem] AE As
open Go.RowKit Go.WideMaps Go.Maps
theorem EL(w:World)(o:Obj):(w.alloc o).heap.size=w.heap.size+1:=by simp
def gT(s:B8):RT:=⟨s,false,0⟩
def gA(b:BA):RA:=⟨b.1,b.2.map gT,0,0,false⟩
theorem G7(b:BA):(gA b).ts.length=b.2.length:=by simp[gA]
def Lu(x y:List RT):Bool:=decide (x.map RT.s=y.map RT.s)
def SI(a b:RA):Bool:=decide (a.name=b.name)&&Lu a.ts b.ts
theorem eG(b c:BA):SI (gA b) (gA c)=decide (b=c):=by
 have e:∀l:List B8,(l.map gT).map RT.s=l:=by intro l;rw[C6];exact List.map_id _
 have h1:(gA b).ts.map RT.s=b.2:=e b.2;have h2:(gA c).ts.map RT.s=c.2:=e c.2;rw[Hv];unfold SI Lu;rw[h1,h2,Cp,BE,BE,BE];show b.1=c.1/\b.2=c.2↔b=c;constructor
 ·rintro⟨h1,h2⟩;exact Prod.ext h1 h2
 ·rintro rfl;exact⟨rfl,rfl⟩
theorem UR(x y:List RT)(k:Nat)(hx:k<x.length)(q:k<y.length):Lu (x.drop k) (y.drop k)=(decide (x[k].s=y[k].s)&&Lu (x.drop (k+1)) (y.drop (k+1))):=by rw[Aa hx,Aa q];unfold Lu;simp only[A6,Pk];rw[Hv,Cp,BE,BE,BE]
theorem kA(w:World)(b1 b2:Nat)(a b:RA)(qa i:Option Addr)(p c:Nat)(R:w.ownsRow b1 130 3 (.slice qa a.ts.length p) a.ts.length (a.ts.flatMap RT.cells))(P:w.ownsRow b2 130 3 (.slice i b.ts.length c) b.ts.length (b.ts.flatMap RT.cells))(hn:a.ts.length<=100):
 Calls prog 155 #[.agg #[.string (bs a.name),.slice qa a.ts.length p,.int .i64 (a.pl:Nat),.int .i64 (a.af:Nat),.bool a.neg],.agg #[.string (bs b.name),.slice i b.ts.length c,.int .i64 (b.pl:Nat),.int .i64 (b.af:Nat),.bool b.neg]] w fun e w'=>e=.returned (.bool (SI a b))/\Below w.heap.size w w':=by
 have J:=Ac w (.cells #[.string (bs a.name),.slice qa a.ts.length p,.int .i64 (a.pl:Nat),.int .i64 (a.af:Nat),.bool a.neg] 69);have q:=J.alloc J.size (.cells #[.string (bs b.name),.slice i b.ts.length c,.int .i64 (b.pl:Nat),.int .i64 (b.af:Nat),.bool b.neg] 69);have u:=(Aw.new w [.string (bs a.name),.slice qa a.ts.length p,.int .i64 (a.pl:Nat),.int .i64 (a.af:Nat),.bool a.neg] 69).alloc (.cells #[.string (bs b.name),.slice i b.ts.length c,.int .i64 (b.pl:Nat),.int .i64 (b.af:Nat),.bool b.neg] 69);have j:=Aw.new (w.alloc (.cells #[.string (bs a.name),.slice qa a.ts.length p,.int .i64 (a.pl:Nat),.int .i64 (a.af:Nat),.bool a.neg] 69)) [.string (bs b.name),.slice i b.ts.length c,.int .i64 (b.pl:Nat),.int .i64 (b.af:Nat),.bool b.neg] 69;have m:=Ah R q;have n:=Ah P q;have hq:=D4 a.name b.name;have t:Hid (SI a b=(decide (a.name=b.name)&&Lu a.ts b.ts)):=rfl;obtain⟨z,K⟩:∃z,Hid (SI a b=z):=⟨_,rfl⟩;rw[K.out]at t⊢;cases hd:decide (a.name=b.name)
 ·rw[hd]at hq t;have o:z=false:=by simpa using t.out
  have G:((bs a.name).toList != (bs b.name).toList)=true:=by rw[bne,hq];rfl
  subst o;clear hd t K;go_enter func155,ntmps155;go_wp2_with fail
  go_ret
  exact⟨rfl,q⟩
 ·rw[hd,BD]at t;rw[hd]at hq;have G:((bs a.name).toList != (bs b.name).toList)=false:=by rw[bne,hq];rfl
  clear hd;by_cases Y:a.ts.length=b.ts.length
  ·have V:(((a.ts.length:Nat):Int) != ((b.ts.length:Nat):Int))=false:=by rw[Y];simp
   have Q:=Ao Y;clear Y;go_enter func155,ntmps155;go_wp2_with fail
   go_loopw [5] (fun B wr=>∃(k:Nat),k<=a.ts.length/\B=.int .i64 k/\Hid (Lu (a.ts.drop k) (b.ts.drop k)=z)/\Aw wr w.heap.size [.string (bs a.name),.slice qa a.ts.length p,.int .i64 (a.pl:Nat),.int .i64 (a.af:Nat),.bool a.neg] 69/\Aw wr (w.heap.size+1) [.string (bs b.name),.slice i b.ts.length c,.int .i64 (b.pl:Nat),.int .i64 (b.af:Nat),.bool b.neg] 69/\Below w.heap.size w wr) (fun B _=>a.ts.length-(intOf B).toNat)
   case atStart=>exact⟨0,by omega,rfl,t.out.symm,u,by rw[EL]at j;exact j,q⟩
   case round=>
    clear u j m n q;obtain⟨k,hk,rfl,l,u,j,q⟩:=hrel;have m:=Ah R q;have n:=Ah P q;have a1:wr.cell? ⟨w.heap.size,1,none⟩=some (.slice qa a.ts.length p):=u.cell 1;have c1:wr.cell? ⟨w.heap.size+1,1,none⟩=some (.slice i b.ts.length c):=j.cell 1;have l1:=u.lt;have l2:=j.lt;by_cases f:k<a.ts.length
    ·have r:k<b.ts.length:=by have:=Q.out;omega
     obtain⟨g,rfl,hg,M,d1,d2⟩:=FM m k f;obtain⟨g2,rfl,q0,N,e1,e2⟩:=FM n k r;have v:=Ao (UR a.ts b.ts k f r);have d:=D4 a.ts[k].s b.ts[k].s;unfold RT.w at M N;generalize a.ts[k].s=x at*;generalize b.ts[k].s=y at*;cases hx:decide (x=y)
     ·rw[hx]at v d;have U:((bs x).toList != (bs y).toList)=true:=by rw[bne,d];rfl
      have o:z=false:=by rw[<-l.out,v.out];rfl
      subst o;clear v l hx;go_wp2_with fail;go_region
      all_goals go_wp2_with fail
      all_goals go_ret
      all_goals exact⟨rfl,q.drew⟩
     ·rw[hx,BD]at v;rw[hx]at d;have U:((bs x).toList != (bs y).toList)=false:=by rw[bne,d];rfl
      have C:=Ao (show Lu (a.ts.drop (k+1)) (b.ts.drop (k+1))=z by rw[<-l.out,v.out]);clear v l hx;go_wp2_with fail;go_region
      all_goals go_wp2_with fail
      all_goals exact⟨⟨k+1,f,by go_num,C,u.drew,j.drew,q.drew⟩,by simp[intOf];omega⟩
    ·have Z:k=a.ts.length:=by omega
     have o:z=true:=by rw[<-l.out,Z,AR,Q.out,AR];rfl
     subst o;clear Z l;go_wp2_with fail
     go_ret
     exact⟨rfl,q⟩
  ·have V:(((a.ts.length:Nat):Int) != ((b.ts.length:Nat):Int))=true:=by rw[GG];omega
   have o:z=false:=by rw[t.out];unfold Lu;rw[decide_eq_false_iff_not];intro h;exact Y (by simpa using Bl List.length h)
   subst o;clear t K;go_enter func155,ntmps155;go_wp2_with fail
   go_ret
   exact⟨rfl,q⟩
theorem Nx{w:World}{own base:Nat}{ao:Option Addr}{n cap:Nat}{H:List BA}(h:BB w own base (.slice ao n cap) (H.map gA))(hn:n=H.length)(i:Nat)(t:i<H.length):
 ∃g z q,ao=some ⟨g,0,none⟩/\g<w.heap.size/\w.cell? ⟨g,i*5,none⟩=some (.string (bs H[i].1))/\w.cell? ⟨g,i*5+1,none⟩=some (.slice z H[i].2.length q)/\w.cell? ⟨g,i*5+2,none⟩=some (.int .i64 0)/\w.cell? ⟨g,i*5+3,none⟩=some (.int .i64 0)/\w.cell? ⟨g,i*5+4,none⟩=some (.bool false)/\
  w.ownsRow base 130 3 (.slice z H[i].2.length q) H[i].2.length ((gA H[i]).ts.flatMap RT.cells):=by
 have y:i<(H.map gA).length:=by simpa using t
 obtain⟨g,tv,h1,h2,k,d,v,u,b,j⟩:=Gw h (by simpa using hn) i y;have e:(H.map gA)[i]=gA H[i]:=by simp
 rw[e]at k v u b j;rw[G7]at j;obtain⟨z,q,rfl⟩:=Au j;exact⟨g,z,q,h1,h2,k,d,v,u,b,j⟩
theorem Wq(w:World)(own base b2:Nat)(ao:Option Addr)(cap:Nat)(H:List BA)(U:BB w own base (.slice ao H.length cap) (H.map gA))(hn:H.length<=1000000)(h3:∀c∈H,c.2.length<=100)(b:BA)(t:Option Addr)(d:Nat)(G:w.ownsRow b2 130 3 (.slice t b.2.length d) b.2.length ((gA b).ts.flatMap RT.cells)):
 Calls prog 115 #[.slice ao H.length cap,.agg #[.string (bs b.1),.slice t b.2.length d,.int .i64 0,.int .i64 0,.bool false]] w fun e w'=>e=.returned (.bool (decide (b∈H)))/\Below w.heap.size w w':=by
 obtain⟨z,p⟩:∃z,Hid (decide (b∈H)=z):=⟨_,rfl⟩;rw[p.out];have m:=Ac w (.cells #[.string (bs b.1),.slice t b.2.length d,.int .i64 0,.int .i64 0,.bool false] 69);have n:=Aw.new w [.string (bs b.1),.slice t b.2.length d,.int .i64 0,.int .i64 0,.bool false] 69;go_enter func115,ntmps115;go_wp2_with fail
 go_loopw [5] (fun Z wr=>∃(k:Nat),k<=H.length/\Z=.int .i64 k/\Hid (decide (b∈H.drop k)=z)/\Aw wr w.heap.size [.string (bs b.1),.slice t b.2.length d,.int .i64 0,.int .i64 0,.bool false] 69/\Below w.heap.size w wr) (fun Z _=>H.length-(intOf Z).toNat)
 case atStart=>exact⟨0,by omega,rfl,p,n,m⟩
 case round=>
  clear m n;obtain⟨k,hk,rfl,r,l,j⟩:=hrel;have q0:=l.lt;obtain⟨r0,r1,r2,r3,r4⟩:=l.c5;have i:=U.below j;have f:=Ah G j;by_cases v:k<H.length
  ·obtain⟨g,Y,u,rfl,hg,c0,c1,c2,c3,c4,s⟩:=Nx i rfl k v;have Q:=h3 H[k] (Aj v)
   have HD:=Ao (show decide (b∈H.drop k)=(decide (H[k]=b)||decide (b∈H.drop (k+1))) by
    rw[Aa v,Hv,jC,BE,BE,BE,Br,eq_comm (a:=b)])
   generalize H[k]=x at*;have q:=Ao (fun(W:World) (V:W.ownsRow base 130 3 (.slice Y x.2.length u) x.2.length ((gA x).ts.flatMap RT.cells)) (j:W.ownsRow b2 130 3 (.slice t b.2.length d) b.2.length ((gA b).ts.flatMap RT.cells))=>kA W base b2 (gA x) (gA b) Y t u d (by rw[G7];exact V) (by rw[G7];exact j) (by rw[G7];exact Q));simp only[G7,eG]at q;cases hd:decide (x=b)
   ·rw[hd]at q;have K:=Ao (show decide (b∈H.drop (k+1))=z by rw[<-r.out,HD.out,hd,CJ]);clear HD r hd p;go_wp2_with fail
    go_region_with (go_at_call 155;refine(q.out _ (by exact s) (by exact f)).mono ?_;rintro e w1 ⟨rfl,y⟩)
    all_goals go_wp2_with fail
    all_goals exact⟨⟨k+1,v,by go_num,K,l.drew.below y,j.drew.trans (y.mono j.size)⟩,by simp[intOf];omega⟩
   ·rw[hd]at q;have J:z=true:=by rw[<-r.out,HD.out,hd,KN]
    subst J;clear HD r hd p;go_wp2_with fail
    go_region_with (go_at_call 155;refine(q.out _ (by exact s) (by exact f)).mono ?_;rintro e w1 ⟨rfl,y⟩)
    all_goals go_wp2_with fail
    all_goals go_ret
    all_goals exact⟨rfl,j.drew.trans (y.mono j.size)⟩
  ·have o:k=H.length:=by omega
   have J:z=false:=by rw[<-r.out,o,AR];simp
   subst J;clear o r p;go_wp2_with fail
   go_ret
   exact⟨rfl,j⟩
structure JO(w:World)(base:Nat)(nv wv:Value)(g:GV):Prop where
 names:w.ownsRow base 9 1 nv g.length (g.map fun p=>.string (bs p.1))
 words:w.ownsRow base 9 1 wv g.length (g.map fun p=>.string (bs p.2))
theorem JO.below{w w':World}{base:Nat}{nv wv:Value}{g:GV}(h:JO w base nv wv g)(hb:Below w.heap.size w w'):JO w' base nv wv g:=⟨Ah h.names hb,Ah h.words hb⟩
theorem kS{w:World}{base:Nat}{z y:Option Addr}{k v:Nat}{g:GV}(h:JO w base (.slice z g.length k) (.slice y g.length v) g)(i:Nat)(j:i<g.length):∃q g2,z=some ⟨q,0,none⟩/\y=some ⟨g2,0,none⟩/\q<w.heap.size/\g2<w.heap.size/\w.cell? ⟨q,i,none⟩=some (.string (bs g[i].1))/\w.cell? ⟨g2,i,none⟩=some (.string (bs g[i].2)):=by
 have q0:i<(g.map fun p=>Value.string (bs p.1)).length:=by simpa using j
 obtain⟨q,h1,u⟩:=DO h.names i j;obtain⟨g2,h2,b⟩:=DO h.words i j;refine⟨q,g2,h1,h2,?_,?_,?_,?_⟩
 ·subst h1;exact(h.names.lt q rfl).2
 ·subst h2;exact(h.words.lt g2 rfl).2
 ·rw[u];simp[j]
 ·rw[b];simp[j]
theorem ZK(g:GV)(v:B8)(i:Nat)(q:i<g.length):IU (g.drop i) v=if g[i].1=v then some g[i].2 else IU (g.drop (i+1)) v:=by rw[Aa q,IU]
def O2(o:Option B8)(e:Ending):Prop:=e=.returned (.tuple #[.string (bs (o.getD [])),.bool o.isSome])
theorem mC(w:World)(base:Nat)(u b:Option Addr)(d t:Nat)(g:GV)(l:JO w base (.slice u g.length d) (.slice b g.length t) g)(hn:g.length<=1000)(v:B8):
 Calls prog 116 #[.agg #[.slice u g.length d,.slice b g.length t],.string (bs v)] w fun e w'=>O2 (IU g v) e/\Below w.heap.size w w':=by
 obtain⟨z,r⟩:∃z,Hid (IU g v=z):=⟨_,rfl⟩;rw[r.out];have p:=Ac w (.cells #[.slice u g.length d,.slice b g.length t] 156);have c:=Aw.new w [.slice u g.length d,.slice b g.length t] 156;go_enter func116,ntmps116;go_wp2_with fail
 go_loopw [6] (fun o wr=>∃(k:Nat),k<=g.length/\o=.int .i64 k/\Hid (IU (g.drop k) v=z)/\Aw wr w.heap.size [.slice u g.length d,.slice b g.length t] 156/\Below w.heap.size w wr) (fun o _=>g.length-(intOf o).toNat)
 case atStart=>exact⟨0,by omega,rfl,r,c,p⟩
 case round=>
  clear p c;obtain⟨k,hk,rfl,j,s,n⟩:=hrel;have q2:=s.lt;have r0:wr.cell? ⟨w.heap.size,0,none⟩=some (.slice u g.length d):=s.cell 0;have r1:wr.cell? ⟨w.heap.size,1,none⟩=some (.slice b g.length t):=s.cell 1;by_cases q:k<g.length
  ·obtain⟨g1,g2,rfl,rfl,q0,q1,d1,d2⟩:=kS (l.below n) k q;have HD:=Ao (ZK g v k q);have hq:=D4 g[k].1 v;generalize g[k].1=x at*;generalize g[k].2=y at*;by_cases hx:x=v
   ·have f:((bs x).toList==(bs v).toList)=true:=by rw[hq];simpa using hx
    have a:z=some y:=by rw[<-j.out,HD.out,Ai hx]
    subst a;clear HD j hx hq r;go_wp2_with fail;go_ret2;exact⟨rfl,n⟩
   ·have f:((bs x).toList==(bs v).toList)=false:=by rw[hq];simpa using hx
    have i:=Ao (show IU (g.drop (k+1)) v=z by rw[<-j.out,HD.out,Af hx]);clear HD j hx hq r;go_wp2_with fail;exact⟨⟨k+1,q,by go_num,i,s,n⟩,by simp[intOf];omega⟩
  ·have m:k=g.length:=by omega
   have a:z=none:=by rw[<-j.out,m,AR];rfl
   subst a;clear m j r;go_wp2_with fail;go_ret2;exact⟨rfl,n⟩
end
end Go.Proofs.YtpbfiffgcgnidaaGreatDoor
