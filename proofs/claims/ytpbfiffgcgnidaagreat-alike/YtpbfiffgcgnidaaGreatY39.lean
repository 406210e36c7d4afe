import Derived.Test.YtpbfiffgcgnidaaGreatYal
import Derived.KernelRfl
import Derived.Test.YtpbfiffgcgnidaaGreatY29
import Derived.Test.YtpbfiffgcgnidaaGreatY34
namespace Go.Proofs.YtpbfiffgcgnidaaGreat
set_option maxRecDepth 100000
set_option maxHeartbeats 4000000
set_option linter.unusedSimpArgs false
section
def s0:ByteArray:=⟨#[]⟩
def AtR.core(r:AtR):Bool×B8×List B8×B8:=(r.ok,r.name,r.ts,r.rest)
theorem argsR_core(s s':ByteArray)(n:B8)(np np' f:Nat)(ts:List B8)(ps ps':List Nat)(l:B8):(argsR s n np f ts ps l).core=(argsR s' n np' f ts ps' l).core:=by
 induction f generalizing ts ps ps' l with
 |zero=>rfl
 |succ f ih=>
  unfold argsR
  split
  ·rfl
  ·split
   ·rfl
   ·split
    ·rfl
    ·exact ih _ _ _ _
theorem atomR_core(s s':ByteArray)(l:B8):(atomR s l).core=(atomR s' l).core:=by
 unfold atomR;simp only[]
 split
 ·rfl
 ·split
  ·rfl
  ·exact argsR_core _ _ _ _ _ _ _ _ _ _
theorem atomR_ok(s s':ByteArray)(l:B8):(atomR s l).ok=(atomR s' l).ok:=congrArg (fun c=>c.1) (atomR_core s s' l)
theorem atomR_name(s s':ByteArray)(l:B8):(atomR s l).name=(atomR s' l).name:=congrArg (fun c=>c.2.1) (atomR_core s s' l)
theorem atomR_ts(s s':ByteArray)(l:B8):(atomR s l).ts=(atomR s' l).ts:=congrArg (fun c=>c.2.2.1) (atomR_core s s' l)
theorem atomR_rest(s s':ByteArray)(l:B8):(atomR s l).rest=(atomR s' l).rest:=congrArg (fun c=>c.2.2.2) (atomR_core s s' l)
theorem litD_eq(s s':ByteArray)(l:B8):litD s l=litD s' l:=by unfold litD litAt;rw[atomR_name s s',atomR_ts s s']
def BoR.core(r:BoR):Bool×List LitD×Nat×B8:=(r.ok,r.lits,r.spots.length,r.rest)
theorem litsR_core(s s':ByteArray)(f:Nat)(ls:List LitD)(ps ps':List SpotD)(l:B8)(h:ps.length=ps'.length):(litsR s f ls ps l).core=(litsR s' f ls ps' l).core:=by
 induction f generalizing ls ps ps' l with
 |zero=>simp[litsR,BoR.core,h]
 |succ f ih=>
  unfold litsR;rw[litD_eq s s'];unfold litAt;rw[atomR_ok s s',atomR_rest s s']
  split
  ·simp[BoR.core,h]
  ·split
   ·simp[BoR.core,h]
   ·split
    ·simp[BoR.core,h]
    ·exact ih _ _ _ _ (by simp[h])
theorem bodyR_core(s s':ByteArray)(ps ps':List SpotD)(l:B8)(h:ps.length=ps'.length):(bodyR s ps l).core=(bodyR s' ps' l).core:=by
 unfold bodyR
 split
 ·simp[BoR.core,h]
 ·exact litsR_core _ _ _ _ _ _ _ h
def ClD.core(d:ClD):B8×List B8×List LitD×Nat:=(d.name,d.ts,d.lits,d.spots.length)
def ClR.core(r:ClR):Bool×(B8×List B8×List LitD×Nat)×B8:=(r.ok,r.d.core,r.rest)
theorem clauseR_core(s s':ByteArray)(l:B8):(clauseR s l).core=(clauseR s' l).core:=by
 have hb:=bodyR_core s s' [headSpot s l] [headSpot s' l] (tookL (atomR s' l).rest 58) rfl;unfold clauseR;rw[atomR_ok s s',atomR_rest s s',atomR_name s s',atomR_ts s s'];simp only[BoR.core,Prod.mk.injEq]at hb;obtain⟨b1,b2,b3,b4⟩:=hb;rw[b1,b2,b4]
 split
 ·rfl
 ·split
  ·rfl
  ·split
   ·rfl
   ·simp[ClR.core,ClR.d,ClD.core,b3]
theorem progR_core(s s':ByteArray)(f:Nat)(ds ds':List ClD)(l:B8)(h:ds.map ClD.core=ds'.map ClD.core):
 (progR s f ds l).ok=(progR s' f ds' l).ok/\(progR s f ds l).rest=(progR s' f ds' l).rest/\(progR s f ds l).cls.map ClD.core=(progR s' f ds' l).cls.map ClD.core:=by
 induction f generalizing ds ds' l with
 |zero=>unfold progR;split<;>exact⟨rfl,rfl,h⟩
 |succ f ih=>
  have hc:=clauseR_core s s' (skipL l);simp only[ClR.core,Prod.mk.injEq]at hc;obtain⟨c1,c2,c3⟩:=hc;unfold progR;rw[c1,c3]
  split
  ·exact⟨rfl,rfl,h⟩
  ·split
   ·exact⟨rfl,rfl,h⟩
   ·exact ih _ _ _ (by simp[h,c2])
theorem zip_fst{A B C:Type}(f:A->C)(a:List A)(b:List B):(a.zip b).map (fun x=>f x.1)=(a.take b.length).map f:=by
 induction a generalizing b with
 |nil=>simp
 |cons x a ih=>cases b with
  |nil=>simp
  |cons y b=>simp[ih]
def arityN:List B8->List Nat->List (B8×Nat)->Bool
 |_,_,[]=>true
 |xs,ns,(k,n)::r=>if hasW xs k=true then(if ns.getD (posIn xs k) 0=n then arityN xs ns r else false) else arityN (xs++[k]) (ns++[n]) r
theorem arityGo_none(xs:List B8)(ns:List Nat)(it:List (B8×Nat×Nat)):(arityGo xs ns it).isNone=arityN xs ns (it.map fun x=>(x.1,x.2.1)):=by
 induction it generalizing xs ns with
 |nil=>rfl
 |cons x it ih=>
  obtain⟨k,n,p⟩:=x;simp only[arityGo,arityN,List.map_cons]
  split
  ·split
   ·exact ih _ _
   ·rfl
  ·exact ih _ _
def coreItems(c:B8×List B8×List LitD×Nat):List (B8×Nat):=
 (((c.1,c.2.1)::c.2.2.1.map fun l=>(l.name,l.ts)).take c.2.2.2).map fun a=>(a.1,a.2.length)
theorem items_core(d:ClD):(d.items.map fun x=>(x.1,x.2.1))=coreItems d.core:=by unfold ClD.items coreItems;rw[List.map_map];exact zip_fst (fun a=>(a.1,a.2.length)) d.atoms d.spots
theorem arityR_none(ds:List ClD):(arityR ds).isNone=arityN [] [] ((ds.map ClD.core).flatMap coreItems):=by
 unfold arityR;rw[arityGo_none,List.map_flatMap,List.flatMap_map];congr 1;congr 1
 funext d
 exact items_core d
def safeB(safe:List B8)(ts:List B8):Bool:=ts.all fun t=> !(isVar t&& !hasW safe t)
theorem unTerms_none(safe:List B8)(ps:List Nat)(k:Nat)(ts:List B8):(unTerms safe ps k ts).isNone=safeB safe ts:=by
 induction ts generalizing k with
 |nil=>rfl
 |cons t r ih=>
  simp only[unTerms];cases hb:(isVar t&& !hasW safe t)
  ·rw[if_neg (by simp),ih];simp only[safeB,List.all_cons,hb];rfl
  ·rw[if_pos rfl];simp only[safeB,List.all_cons,hb];rfl
theorem or_none{A:Type}(a b:Option A):(a.or b).isNone=(a.isNone&&b.isNone):=by cases a<;>simp
theorem unAtoms_none(safe:List B8)(z:List ((B8×List B8)×SpotD)):(unAtoms safe z).isNone=(z.map fun x=>x.1.2).all (safeB safe):=by
 induction z with
 |nil=>rfl
 |cons x z ih=>obtain⟨a,sp⟩:=x;simp only[unAtoms,or_none,unTerms_none,ih,List.map_cons,List.all_cons]
def coreSafe(c:B8×List B8×List LitD×Nat):Bool:=
 ((((c.1,c.2.1)::c.2.2.1.map fun l=>(l.name,l.ts)).take c.2.2.2).map fun a=>a.2).all (safeB (posT c.2.2.1))
theorem openR_none(ds:List ClD):(openR ds).isNone=(ds.map ClD.core).all coreSafe:=by
 induction ds with
 |nil=>rfl
 |cons d r ih=>simp only[openR,or_none,unAtoms_none,ih,List.map_cons,List.all_cons];congr 1;rw[zip_fst (fun a:B8×List B8=>a.2)];rfl
theorem needStep_core(ds ds':List ClD)(h:ds.map ClD.core=ds'.map ClD.core):needStep ds=needStep ds':=by
 have key:∀(ds:List ClD) nm xs,needStep ds nm xs=(ds.map ClD.core).foldl (fun xs c=>if c.1=nm then addNames xs c.2.2.1 else xs) xs:=by intro ds nm xs;rw[List.foldl_map];rfl
 funext nm xs
 rw[key,key,h]
theorem allNames_core(ds ds':List ClD)(h:ds.map ClD.core=ds'.map ClD.core):allNames ds=allNames ds':=by
 have key:∀(ds:List ClD) nm,allNames ds nm=nm::(ds.map ClD.core).flatMap (fun c=>c.2.2.1.map fun l=>l.name):=by intro ds nm;rw[List.flatMap_map];rfl
 funext nm
 rw[key,key,h]
theorem needsR_core(ds ds':List ClD)(h:ds.map ClD.core=ds'.map ClD.core):needsR ds=needsR ds':=by
 have hg:∀f i xs,needGo ds f i xs=needGo ds' f i xs:=by
  intro f
  induction f with
  |zero=>intro i xs;rfl
  |succ f ih=>intro i xs;unfold needGo;rw[needStep_core ds ds' h];split<;>simp[ih]
 funext nm
 unfold needsR;rw[allNames_core ds ds' h];exact hg _ _ _
def layB(N:B8->List B8)(c:B8×List B8×List LitD×Nat):Bool:=c.2.2.1.all fun l=> !(l.neg&&hasW (N l.name) c.1)
theorem layLits_none(ds:List ClD)(d:ClD)(i:Nat)(ls:List LitD):(layLits ds d i ls).isNone=ls.all fun l=> !(l.neg&&hasW (needsR ds l.name) d.name):=by
 induction ls generalizing i with
 |nil=>rfl
 |cons l r ih=>
  simp only[layLits];cases hb:(l.neg&&hasW (needsR ds l.name) d.name)
  ·rw[if_neg (by simp),ih];simp only[List.all_cons,hb];rfl
  ·rw[if_pos rfl];simp only[List.all_cons,hb];rfl
theorem layGo_none(ds xs:List ClD):(layGo ds xs).isNone=(xs.map ClD.core).all (layB (needsR ds)):=by
 induction xs with
 |nil=>rfl
 |cons d r ih=>simp only[layGo,or_none,layLits_none,ih,List.map_cons,List.all_cons];rfl
def sound(ds:List ClD):Bool:=(arityN [] [] ((ds.map ClD.core).flatMap coreItems)&&(ds.map ClD.core).all coreSafe)&&(ds.map ClD.core).all (layB (needsR ds))
theorem sound_core(ds ds':List ClD)(h:ds.map ClD.core=ds'.map ClD.core):sound ds=sound ds':=by unfold sound;rw[h,needsR_core ds ds' h]
theorem faultR_sound(ds:List ClD)(h:sound ds=true):faultR ds=(0,0):=by unfold sound at h;simp only[Bool.and_eq_true]at h;obtain⟨⟨h1,h2⟩,h3⟩:=h;rw[<-arityR_none]at h1;rw[<-openR_none]at h2;rw[<-layGo_none]at h3;unfold faultR layersR;rw[Option.isNone_iff_eq_none]at h1 h2 h3;rw[h1,h2,h3]
def edgeB:B8:=[101,100,103,101]
def factC(p:Nat×Nat):ClD:=⟨edgeB,[nodeB p.1,nodeB p.2],[],[⟨0,0,[0,0]⟩]⟩
def Small(ps:List (Nat×Nat)):Prop:=∀p∈ps,p.1<4/\p.2<4
theorem Small.tail{p:Nat×Nat}{ps:List (Nat×Nat)}(h:Small (p::ps)):Small ps:=fun x hx=>h x (by simp[hx])
theorem small_cases{P:Nat->Nat->Prop}(h:P 0 0/\P 0 1/\P 0 2/\P 0 3/\P 1 0/\P 1 1/\P 1 2/\P 1 3/\P 2 0/\P 2 1/\P 2 2/\P 2 3/\P 3 0/\P 3 1/\P 3 2/\P 3 3)(i k:Nat)(hi:i<4)(hk:k<4):P i k:=by
 have h1:i=0\/i=1\/i=2\/i=3:=by omega
 have h2:k=0\/k=1\/k=2\/k=3:=by omega
 obtain⟨a,b,c,d,e,f,g,j,l,m,n,o,p,q,r,s⟩:=h;rcases h1 with rfl|rfl|rfl|rfl<;>rcases h2 with rfl|rfl|rfl|rfl<;>assumption
theorem fact_clause(rest:B8)(i k:Nat)(hi:i<4)(hk:k<4):(clauseR s0 (factB i k++46::rest)).core=(true,(factC (i,k)).core,rest):=
 small_cases (P:=fun i k=>(clauseR s0 (factB i k++46::rest)).core=(true,(factC (i,k)).core,rest)) (by refine⟨?_,?_,?_,?_,?_,?_,?_,?_,?_,?_,?_,?_,?_,?_,?_,?_⟩<;>kernel_rfl) i k hi hk
theorem prog_blank(s:ByteArray)(f:Nat)(ds:List ClD)(c:UInt8)(l:B8)(h:blank (c.toNat:Int)=true):progR s f ds (c::l)=progR s f ds l:=by
 have:skipL (c::l)=skipL l:=by simp[skipL,h]
 cases f<;>simp[progR,this]
def factsW(sep:UInt8)(ps:List (Nat×Nat)):B8:=ps.flatMap fun p=>factB p.1 p.2++[46,sep]
theorem prog_facts(sep:UInt8)(hs:blank (sep.toNat:Int)=true)(ps:List (Nat×Nat))(hp:Small ps)(f:Nat)(ds:List ClD)(l:B8):
 ∃ds',ds'.map ClD.core=ds.map ClD.core++(ps.map factC).map ClD.core/\progR s0 (f+ps.length) ds (factsW sep ps++l)=progR s0 f ds' l:=by
 induction ps generalizing ds with
 |nil=>exact⟨ds,by simp,rfl⟩
 |cons p ps ih=>
  obtain⟨i,k⟩:=p;have hik:=hp (i,k) (by simp);have e1:factsW sep ((i,k)::ps)++l=factB i k++46::(sep::(factsW sep ps++l)):=by simp[factsW]
  have hc:=fact_clause (sep::(factsW sep ps++l)) i k hik.1 hik.2;simp only[ClR.core,Prod.mk.injEq]at hc;obtain⟨c1,c2,c3⟩:=hc;have hk:skipL (factB i k++46::(sep::(factsW sep ps++l)))=factB i k++46::(sep::(factsW sep ps++l)):=rfl;obtain⟨ds',h1,h2⟩:=ih hp.tail (ds++[(clauseR s0 (factB i k++46::(sep::(factsW sep ps++l)))).d]);refine⟨ds',?_,?_⟩
  ·rw[h1];simp[c2]
  ·rw[e1,List.length_cons,show f+(ps.length+1)=(f+ps.length)+1 by omega];rw[progR,hk,if_neg (by simp[factB]),c1,if_neg (by simp),c3,prog_blank _ _ _ _ _ hs,h2]
theorem prog_acc(s:ByteArray)(f:Nat)(ds e:List ClD)(l:B8):progR s f (ds++e) l=⟨(progR s f e l).ok,ds++(progR s f e l).cls,(progR s f e l).rest⟩:=by
 induction f generalizing e l with
 |zero=>unfold progR;split<;>rfl
 |succ f ih=>
  unfold progR
  split
  ·rfl
  ·split
   ·rfl
   ·rw[List.append_assoc];exact ih _ _
theorem prog_fuel(s:ByteArray)(f g:Nat)(e:List ClD)(l:B8)(h:(progR s f e l).ok=true):progR s (f+g) e l=progR s f e l:=by
 induction f generalizing e l with
 |zero=>
  cases g with
  |zero=>rfl
  |succ g=>
   unfold progR at h
   split at h
   ·rename_i h1;rw[Nat.zero_add];unfold progR;rw[if_pos h1,if_pos h1]
   ·simp at h
 |succ f ih=>
  rw[show f+1+g=(f+g)+1 by omega];unfold progR at h⊢
  split
  ·rfl
  ·rename_i h1;rw[if_neg h1]at h
   split
   ·rfl
   ·rename_i h2;rw[if_neg h2]at h;exact ih _ _ h
def Ru(v:Nat):List ClD:=(progR s0 24 [] (rulesT v)).cls
theorem four{P:Nat->Prop}(h:P 0/\P 1/\P 2/\P 3)(v:Nat)(hv:v<4):P v:=by
 have h1:v=0\/v=1\/v=2\/v=3:=by omega
 obtain⟨a,b,c,d⟩:=h;rcases h1 with rfl|rfl|rfl|rfl<;>assumption
theorem Ru_ok(v:Nat)(hv:v<4):(progR s0 24 [] (rulesT v)).ok=true:=four (P:=fun v=>(progR s0 24 [] (rulesT v)).ok=true) (by refine⟨?_,?_,?_,?_⟩<;>kernel_rfl) v hv
def ruSound(R:List ClD):Bool:=(arityN [] [] ((R.map ClD.core).flatMap coreItems)&&arityN [edgeB] [2] ((R.map ClD.core).flatMap coreItems))&&((R.map ClD.core).all coreSafe&&(R.map ClD.core).all (layB (needsR R)))
theorem Ru_sound(v:Nat)(hv:v<4):ruSound (Ru v)=true:=four (P:=fun v=>ruSound (Ru v)=true) (by decide+kernel) v hv
theorem arityN_facts(n:Nat)(r:List (B8×Nat)):arityN [edgeB] [2] (List.replicate n (edgeB,2)++r)=arityN [edgeB] [2] r:=by
 induction n with
 |zero=>rfl
 |succ n ih=>rw[List.replicate_succ,List.cons_append,arityN,if_pos (by decide),if_pos (by decide),ih]
theorem facts_items(ps:List (Nat×Nat)):((ps.map factC).map ClD.core).flatMap coreItems=List.replicate ps.length (edgeB,2):=by
 induction ps with
 |nil=>rfl
 |cons p ps ih=>simp only[List.map_cons,List.flatMap_cons,ih,List.length_cons,List.replicate_succ];rfl
theorem facts_safe(ps:List (Nat×Nat))(h:Small ps):((ps.map factC).map ClD.core).all coreSafe=true:=by
 induction ps with
 |nil=>rfl
 |cons p ps ih=>have hp:=h p (by simp);rw[List.map_cons,List.map_cons,List.all_cons,ih h.tail,Bool.and_true];exact small_cases (P:=fun i k=>coreSafe (factC (i,k)).core=true) (by decide+kernel) p.1 p.2 hp.1 hp.2
theorem facts_lay(N:B8->List B8)(ps:List (Nat×Nat)):((ps.map factC).map ClD.core).all (layB N)=true:=by
 induction ps with
 |nil=>rfl
 |cons p ps ih=>rw[List.map_cons,List.map_cons,List.all_cons,ih];rfl
theorem facts_needs(ps:List (Nat×Nat))(R:List ClD):needsR (ps.map factC++R)=needsR R:=by
 have h1:needStep (ps.map factC++R)=needStep R:=by
  funext nm xs
  unfold needStep;rw[List.foldl_append];congr 1
  induction ps generalizing xs with
  |nil=>rfl
  |cons p ps ih=>rw[List.map_cons,List.foldl_cons,show(if(factC p).name=nm then addNames xs (factC p).lits else xs)=xs by split<;>rfl];exact ih xs
 have h2:allNames (ps.map factC++R)=allNames R:=by
  funext nm
  have e:∀ps:List (Nat×Nat),(ps.map factC).flatMap (fun d=>d.lits.map fun l=>l.name)=[]:=by
   intro ps
   induction ps with
   |nil=>rfl
   |cons p ps ih=>rw[List.map_cons,List.flatMap_cons,ih];rfl
  unfold allNames;rw[List.flatMap_append,e,List.nil_append]
 have hg:∀f i xs,needGo (ps.map factC++R) f i xs=needGo R f i xs:=by
  intro f
  induction f with
  |zero=>intro i xs;rfl
  |succ f ih=>intro i xs;unfold needGo;rw[h1];split<;>simp[ih]
 funext nm
 unfold needsR;rw[h2];exact hg _ _ _
theorem facts_sound(ps:List (Nat×Nat))(hp:Small ps)(v:Nat)(hv:v<4):sound (ps.map factC++Ru v)=true:=by
 have h:=Ru_sound v hv;unfold ruSound at h;simp only[Bool.and_eq_true]at h;obtain⟨⟨h1,h2⟩,h3,h4⟩:=h;unfold sound;rw[facts_needs,List.map_append,List.flatMap_append,List.all_append,List.all_append,facts_items,facts_safe ps hp,facts_lay,h3,h4];simp only[Bool.and_true]
 cases ps with
 |nil=>exact h1
 |cons p ps=>rw[List.length_cons,List.replicate_succ,List.cons_append,arityN,if_neg (by decide)];rw[List.nil_append,List.nil_append,arityN_facts];exact h2
theorem factsW_len(sep:UInt8)(ps:List (Nat×Nat)):(factsW sep ps).length=11*ps.length:=by
 induction ps with
 |nil=>rfl
 |cons p ps ih=>unfold factsW at*;rw[List.flatMap_cons,List.length_append,ih,List.length_cons];simp[factB,nodeB];omega
def pairsOf(q:List Bool):List (Nat×Nat):=((List.range 16).filter (qAt q)).map fun j=>(j / 4,j%4)
theorem pairs_small(q:List Bool):Small (pairsOf q):=by intro p hp;unfold pairsOf at hp;rw[List.mem_map]at hp;obtain⟨j,hj,rfl⟩:=hp;have:=(List.mem_filter.1 hj).1;rw[List.mem_range]at this;constructor<;>simp only[]<;>omega
theorem pairs_len(q:List Bool):(pairsOf q).length<=16:=by unfold pairsOf;rw[List.length_map];have:=List.length_filter_le (qAt q) (List.range 16);simpa using this
theorem facts_pairs(q:List Bool):factsTo q 16=(pairsOf q).map fun p=>factB p.1 p.2:=by unfold factsTo pairsOf;rw[List.map_map];rfl
theorem text_pairs(q:List Bool):textR (factsTo q 16)=factsW 32 (pairsOf q):=by rw[facts_pairs];unfold textR factsW;rw[List.flatMap_map]
theorem Rt_len(v:Nat)(hv:v<4):(rulesT v).length<=400:=four (P:=fun v=>(rulesT v).length<=400) (by decide+kernel) v hv
def givenT(q:List Bool)(v:Nat):B8:=textR (factsTo q 16)++rulesT v
theorem given_core(q:List Bool)(v:Nat)(hv:v<4):
 loadE (bs (givenT q v))=(0,0)/\(programR (bs (givenT q v))).cls.map ClD.core=((pairsOf q).map factC++Ru v).map ClD.core:=by
 have hp:=pairs_small q;have hn:=pairs_len q;have hl:=Rt_len v hv;have hok:=Ru_ok v hv;unfold givenT;rw[text_pairs];generalize pairsOf q=ps at*;have hcl:(progR s0 24 [] (rulesT v)).cls=Ru v:=rfl;generalize rulesT v=l at*;obtain⟨ds',h1,h2⟩:=prog_facts 32 (by decide) ps hp (40-ps.length) [] l;rw[show 40-ps.length+ps.length=40 by omega]at h2;have h3:progR s0 (40-ps.length) ds' l=⟨true,ds'++Ru v,(progR s0 24 [] l).rest⟩:=by have:=prog_acc s0 (40-ps.length) ds' [] l;rw[List.append_nil]at this;rw[this,show 40-ps.length=24+(16-ps.length) by omega,prog_fuel _ _ _ _ _ hok,hok,hcl]
 rw[h3]at h2;obtain⟨k1,k2,k3⟩:=progR_core (bs (factsW 32 ps++l)) s0 40 [] [] (factsW 32 ps++l) rfl;rw[h2]at k1 k2 k3;have hb:(bs (factsW 32 ps++l)).data.toList=factsW 32 ps++l:=bs_data _;have hsz:(bs (factsW 32 ps++l)).size=(factsW 32 ps++l).length:=bs_size' _;have hcore:(programR (bs (factsW 32 ps++l))).cls.map ClD.core=(ps.map factC++Ru v).map ClD.core:=by unfold programR;rw[hb,k3,List.map_append,h1,List.map_append];rfl
 have hok':(programR (bs (factsW 32 ps++l))).ok=true:=by unfold programR;rw[hb,k1]
 refine⟨?_,hcore⟩;unfold loadE;rw[if_neg (by rw[hsz,List.length_append,factsW_len];omega),hok',if_neg (by simp)];apply faultR_sound;rw[sound_core _ _ hcore];exact facts_sound ps hp v hv
theorem given_len(q:List Bool)(v:Nat)(hv:v<4):(givenT q v).length<=2000:=by unfold givenT;have h1:=Rt_len v hv;have h2:=pairs_len q;rw[text_pairs,List.length_append,factsW_len];omega
end
end Go.Proofs.YtpbfiffgcgnidaaGreat
