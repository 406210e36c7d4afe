import Derived.Test.YtpbfiffgcgnidaaGreatYal
import Derived.Test.YtpbfiffgcgnidaaGreatY7
import Derived.Test.YtpbfiffgcgnidaaGreatY25
import Derived.Test.YtpbfiffgcgnidaaGreatY39
namespace Go.Proofs.YtpbfiffgcgnidaaGreat
set_option maxRecDepth 100000
set_option maxHeartbeats 4000000
set_option linter.unusedSimpArgs false
section
def pathB:B8:=[112,97,116,104]
def ndB:B8:=[110,111,100,101]
def apartB:B8:=[97,112,97,114,116]
def sinkB:B8:=[115,105,110,107]
def outB:B8:=[111,117,116]
def loneB:B8:=[108,111,110,101]
def someB:B8:=[115,111,109,101]
def hopB:B8:=[104,111,112]
def vA:B8:=[65]
def vB:B8:=[66]
def vC:B8:=[67]
def vX:B8:=[88]
def vY:B8:=[89]
def vZ:B8:=[90]
abbrev Cor:=B8×List B8×List LitD
def ClD.cor(d:ClD):Cor:=(d.name,d.ts,d.lits)
def rulesC:List Cor:=[(ndB,[nodeB 0],[]),(ndB,[nodeB 1],[]),(ndB,[nodeB 2],[]),(ndB,[nodeB 3],[]),
 (apartB,[vX,vY],[⟨ndB,[vX],false⟩,⟨ndB,[vY],false⟩,⟨pathB,[vX,vY],true⟩]),
 (sinkB,[vX],[⟨ndB,[vX],false⟩,⟨outB,[vX],true⟩]),
 (outB,[vX],[⟨edgeB,[vX,vY],false⟩]),
 (loneB,[vX],[⟨apartB,[vX,vY],false⟩,⟨someB,[vX],true⟩]),
 (someB,[vX],[⟨pathB,[vX,vY],false⟩])]
def rulesV:Nat->List Cor
 |0=>[(pathB,[vX,vY],[⟨edgeB,[vX,vY],false⟩]),(pathB,[vX,vZ],[⟨pathB,[vX,vY],false⟩,⟨edgeB,[vY,vZ],false⟩])]
 |1=>[(pathB,[vX,vZ],[⟨edgeB,[vX,vY],false⟩,⟨pathB,[vY,vZ],false⟩]),(pathB,[vX,vY],[⟨edgeB,[vX,vY],false⟩])]
 |2=>[(pathB,[vA,vC],[⟨pathB,[vA,vB],false⟩,⟨pathB,[vB,vC],false⟩]),(pathB,[vA,vB],[⟨edgeB,[vA,vB],false⟩])]
 |_=>[(pathB,[vX,vY],[⟨hopB,[vX,vY],false⟩]),(hopB,[vX,vY],[⟨edgeB,[vX,vY],false⟩]),(hopB,[vX,vZ],[⟨hopB,[vX,vY],false⟩,⟨pathB,[vY,vZ],false⟩])]
structure GraphD(ps:List (Nat×Nat))(v:Nat)(D:List ClD):Prop where
 of:∀d∈D,(∃p∈ps,d.cor=(factC p).cor)\/d.cor∈rulesC\/d.cor∈rulesV v
 fact:∀p∈ps,∃d∈D,d.cor=(factC p).cor
 rule:∀c,c∈rulesC\/c∈rulesV v->∃d∈D,d.cor=c
def along(E:B8->B8->Prop):Nat->B8->B8->Prop
 |0,x,y=>E x y
 |n+1,x,y=>∃z,along E n x z/\E z y
def Comes(E:B8->B8->Prop)(x y:B8):Prop:=∃n,along E n x y
section
variable {E:B8->B8->Prop} {x y z:B8}
theorem Comes.one(h:E x y):Comes E x y:=⟨0,h⟩
theorem Comes.tail(h:Comes E x y)(k:E y z):Comes E x z:=by obtain⟨n,h⟩:=h;exact⟨n+1,y,h,k⟩
theorem Comes.trans(h:Comes E x y)(k:Comes E y z):Comes E x z:=by
 obtain⟨n,k⟩:=k
 induction n generalizing z with
 |zero=>exact h.tail k
 |succ n ih=>obtain⟨u,k,e⟩:=k;exact(ih k).tail e
theorem Comes.rec'{P:B8->B8->Prop}(h1:∀x y,E x y->P x y)(h2:∀x y z,P x y->E y z->P x z)(h:Comes E x y):P x y:=by
 obtain⟨n,h⟩:=h
 induction n generalizing y with
 |zero=>exact h1 _ _ h
 |succ n ih=>obtain⟨u,k,e⟩:=h;exact h2 _ _ _ (ih k) e
end
def fillV(x y z:B8)(t:B8):B8:=if t=vX\/t=vA then x else if t=vY\/t=vB then y else z
section
variable {ps:List (Nat×Nat)} {v:Nat} {D:List ClD} {M:BA->Prop}
theorem cor_put{d:ClD}{n:B8}{ts:List B8}{ls:List LitD}(h:d.cor=(n,ts,ls))(s:B8->B8):d.put s=(n,putsT s ts)/\d.lits=ls:=by unfold ClD.cor at h;simp only[Prod.mk.injEq]at h;obtain⟨h1,h2,h3⟩:=h;exact⟨by unfold ClD.put;rw[h1,h2],h3⟩
theorem StableD.use(hM:StableD D M)(hD:GraphD ps v D)(c:Cor)(hc:c∈rulesC\/c∈rulesV v)(s:B8->B8)(h:∀l∈c.2.2,(l.neg=false->M (l.put s))/\(l.neg=true->¬M (l.put s))):M (c.1,putsT s c.2.1):=by obtain⟨d,hd,e⟩:=hD.rule c hc;obtain⟨n,ts,ls⟩:=c;obtain⟨h1,h2⟩:=cor_put e s;have:=hM.closed d hd s (by intro l hl;rw[h2]at hl;exact h l hl);rw[h1]at this;exact this
theorem StableD.inv(hM:StableD D M){b:BA}(h:M b):∃d∈D,∃s,b=d.put s/\MetD M d s:=
 hM.least (fun b=>∃d∈D,∃s,b=d.put s/\MetD M d s) (fun d hd s hm _=>⟨d,hd,s,rfl,hm⟩) b h
theorem node_word(s:B8->B8)(k:Nat)(hk:k<4):putT s (nodeB k)=nodeB k:=by
 have h1:k=0\/k=1\/k=2\/k=3:=by omega
 rcases h1 with rfl|rfl|rfl|rfl<;>rfl
theorem StableD.by_name(hM:StableD D M)(hD:GraphD ps v D)(hs:Small ps){n:B8}{l:List B8}(h:M (n,l)):
 (n=edgeB/\∃p∈ps,l=[nodeB p.1,nodeB p.2])\/∃c,(c∈rulesC\/c∈rulesV v)/\c.1=n/\∃s,l=putsT s c.2.1/\∀l∈c.2.2,(l.neg=false->M (l.put s))/\(l.neg=true->¬M (l.put s)):=by
 obtain⟨d,hd,s,e,hm⟩:=hM.inv h;rcases hD.of d hd with⟨p,hp,hc⟩|hc
 ·obtain⟨h1,_⟩:=cor_put (n:=edgeB) (ts:=[nodeB p.1,nodeB p.2]) (ls:=[]) hc s;rw[h1,Prod.mk.injEq]at e;refine .inl ⟨e.1,p,hp,?_⟩;rw[e.2];simp only[putsT,List.map_cons,List.map_nil,node_word s _ (hs p hp).1,node_word s _ (hs p hp).2]
 ·obtain⟨h1,h2⟩:=cor_put (n:=d.cor.1) (ts:=d.cor.2.1) (ls:=d.cor.2.2) rfl s;rw[h1,Prod.mk.injEq]at e;refine .inr ⟨d.cor,hc,e.1.symm,s,e.2,?_⟩;rw[<-h2];exact hm
theorem four'{P:Nat->Prop}(h0:P 0)(h1:P 1)(h2:P 2)(h3:P 3)(v:Nat)(hv:v<4):P v:=by
 have h:v=0\/v=1\/v=2\/v=3:=by omega
 rcases h with rfl|rfl|rfl|rfl<;>assumption
def ofName(v:Nat)(n:B8):List Cor:=(rulesC++rulesV v).filter fun c=>decide (c.1=n)
theorem StableD.rules(hM:StableD D M)(hD:GraphD ps v D)(hs:Small ps){n:B8}(hn:n≠edgeB){l:List B8}(h:M (n,l)):
 ∃c∈ofName v n,∃s,l=putsT s c.2.1/\∀l∈c.2.2,(l.neg=false->M (l.put s))/\(l.neg=true->¬M (l.put s)):=by
 rcases hM.by_name hD hs h with⟨h,_⟩|⟨c,hc,h1,s,h2,h3⟩
 ·exact absurd h hn
 ·exact⟨c,List.mem_filter.2 ⟨List.mem_append.2 hc,decide_eq_true h1⟩,s,h2,h3⟩
theorem edge_iff(hM:StableD D M)(hD:GraphD ps v D)(hs:Small ps)(hv:v<4)(l:List B8):M (edgeB,l)↔ ∃p∈ps,l=[nodeB p.1,nodeB p.2]:=by
 constructor
 ·intro h;rcases hM.by_name hD hs h with⟨_,h⟩|⟨c,hc,h1,_⟩
  ·exact h
  ·have:c∈ofName v edgeB:=List.mem_filter.2 ⟨List.mem_append.2 hc,decide_eq_true h1⟩;rw[show ofName v edgeB=[] from four' (P:=fun v=>ofName v edgeB=[]) (by decide) (by decide) (by decide) (by decide) v hv]at this;simp at this
 ·rintro⟨p,hp,rfl⟩;obtain⟨d,hd,e⟩:=hD.fact p hp;obtain⟨h1,h2⟩:=cor_put (n:=edgeB) (ts:=[nodeB p.1,nodeB p.2]) (ls:=[]) e id;have:=hM.closed d hd id (by intro l hl;rw[h2]at hl;simp at hl);rw[h1]at this;simpa only[putsT,List.map_cons,List.map_nil,node_word id _ (hs p hp).1,node_word id _ (hs p hp).2]using this
theorem nd_iff(hM:StableD D M)(hD:GraphD ps v D)(hs:Small ps)(hv:v<4)(l:List B8):M (ndB,l)↔ ∃k,k<4/\l=[nodeB k]:=by
 constructor
 ·intro h;obtain⟨c,hc,s,h2,_⟩:=hM.rules hD hs (by decide) h;rw[show ofName v ndB=[(ndB,[nodeB 0],[]),(ndB,[nodeB 1],[]),(ndB,[nodeB 2],[]),(ndB,[nodeB 3],[])] from four' (P:=fun v=>ofName v ndB=[(ndB,[nodeB 0],[]),(ndB,[nodeB 1],[]),(ndB,[nodeB 2],[]),(ndB,[nodeB 3],[])]) rfl rfl rfl rfl v hv]at hc;simp only[List.mem_cons,List.not_mem_nil,or_false]at hc;rcases hc with rfl|rfl|rfl|rfl
  ·exact⟨0,by omega,h2⟩
  ·exact⟨1,by omega,h2⟩
  ·exact⟨2,by omega,h2⟩
  ·exact⟨3,by omega,h2⟩
 ·rintro⟨k,hk,rfl⟩;have key:∀k,k<4->(ndB,[nodeB k],[])∈rulesC:=four' (P:=fun k=>(ndB,[nodeB k],[])∈rulesC) (by simp[rulesC]) (by simp[rulesC]) (by simp[rulesC]) (by simp[rulesC]);have:=hM.use hD (ndB,[nodeB k],[]) (.inl (key k hk)) id (by simp);simpa only[putsT,List.map_cons,List.map_nil,node_word id k hk]using this
def ed(M:BA->Prop)(x y:B8):Prop:=M (edgeB,[x,y])
theorem path_sound(hM:StableD D M)(hD:GraphD ps v D)(hv:v<4){l:List B8}(h:M (pathB,l)):∃x y,l=[x,y]/\Comes (ed M) x y:=by
 have key:=hM.least (fun b=>b.1=pathB\/b.1=hopB->∃x y,b.2=[x,y]/\Comes (ed M) x y) (by
  intro d hd s hm hp hn;rcases hD.of d hd with⟨p,_,hc⟩|hc
  ·obtain⟨h1,_⟩:=cor_put (n:=edgeB) (ts:=[nodeB p.1,nodeB p.2]) (ls:=[]) hc s;rw[h1]at hn;exact absurd (show edgeB=pathB\/edgeB=hopB from hn) (by decide)
  ·generalize hcc:d.cor=c at hc;obtain⟨n,ts,ls⟩:=c;obtain⟨h1,h2⟩:=cor_put hcc s;rw[h1]at hn⊢;have hn:n=pathB\/n=hopB:=hn;unfold MetD at hm;rw[h2]at hm hp;rcases hc with hc|hc
   ·simp only[rulesC,List.mem_cons,List.not_mem_nil,or_false,Prod.mk.injEq]at hc;rcases hc with⟨rfl,_⟩|⟨rfl,_⟩|⟨rfl,_⟩|⟨rfl,_⟩|⟨rfl,_⟩|⟨rfl,_⟩|⟨rfl,_⟩|⟨rfl,_⟩|⟨rfl,_⟩<;>exact absurd hn (by decide)
   ·have h:v=0\/v=1\/v=2\/v=3:=by omega
    rcases h with rfl|rfl|rfl|rfl<;>simp only[rulesV,List.mem_cons,List.not_mem_nil,or_false,Prod.mk.injEq]at hc
    ·rcases hc with⟨rfl,rfl,rfl⟩|⟨rfl,rfl,rfl⟩
     ·exact⟨s vX,s vY,rfl,.one ((hm ⟨edgeB,[vX,vY],false⟩ (by simp)).1 rfl)⟩
     ·obtain⟨x,y,e,k⟩:=hp ⟨pathB,[vX,vY],false⟩ (by simp) rfl (.inl rfl);have e:[s vX,s vY]=[x,y]:=e;simp only[List.cons.injEq,and_true]at e;obtain⟨rfl,rfl⟩:=e;exact⟨s vX,s vZ,rfl,k.tail ((hm ⟨edgeB,[vY,vZ],false⟩ (by simp)).1 rfl)⟩
    ·rcases hc with⟨rfl,rfl,rfl⟩|⟨rfl,rfl,rfl⟩
     ·obtain⟨x,y,e,k⟩:=hp ⟨pathB,[vY,vZ],false⟩ (by simp) rfl (.inl rfl);have e:[s vY,s vZ]=[x,y]:=e;simp only[List.cons.injEq,and_true]at e;obtain⟨rfl,rfl⟩:=e;exact⟨s vX,s vZ,rfl,(Comes.one ((hm ⟨edgeB,[vX,vY],false⟩ (by simp)).1 rfl)).trans k⟩
     ·exact⟨s vX,s vY,rfl,.one ((hm ⟨edgeB,[vX,vY],false⟩ (by simp)).1 rfl)⟩
    ·rcases hc with⟨rfl,rfl,rfl⟩|⟨rfl,rfl,rfl⟩
     ·obtain⟨x,y,e,k⟩:=hp ⟨pathB,[vA,vB],false⟩ (by simp) rfl (.inl rfl);have e:[s vA,s vB]=[x,y]:=e;simp only[List.cons.injEq,and_true]at e;obtain⟨rfl,rfl⟩:=e;obtain⟨x,y,e,k'⟩:=hp ⟨pathB,[vB,vC],false⟩ (by simp) rfl (.inl rfl);have e:[s vB,s vC]=[x,y]:=e;simp only[List.cons.injEq,and_true]at e;obtain⟨rfl,rfl⟩:=e;exact⟨s vA,s vC,rfl,k.trans k'⟩
     ·exact⟨s vA,s vB,rfl,.one ((hm ⟨edgeB,[vA,vB],false⟩ (by simp)).1 rfl)⟩
    ·rcases hc with⟨rfl,rfl,rfl⟩|⟨rfl,rfl,rfl⟩|⟨rfl,rfl,rfl⟩
     ·obtain⟨x,y,e,k⟩:=hp ⟨hopB,[vX,vY],false⟩ (by simp) rfl (.inr rfl);have e:[s vX,s vY]=[x,y]:=e;exact⟨x,y,e,k⟩
     ·exact⟨s vX,s vY,rfl,.one ((hm ⟨edgeB,[vX,vY],false⟩ (by simp)).1 rfl)⟩
     ·obtain⟨x,y,e,k⟩:=hp ⟨hopB,[vX,vY],false⟩ (by simp) rfl (.inr rfl);have e:[s vX,s vY]=[x,y]:=e;simp only[List.cons.injEq,and_true]at e;obtain⟨rfl,rfl⟩:=e;obtain⟨x,y,e,k'⟩:=hp ⟨pathB,[vY,vZ],false⟩ (by simp) rfl (.inl rfl);have e:[s vY,s vZ]=[x,y]:=e;simp only[List.cons.injEq,and_true]at e;obtain⟨rfl,rfl⟩:=e
      exact⟨s vX,s vZ,rfl,k.trans k'⟩) _ h
 exact key (.inl rfl)
theorem path_iff(hM:StableD D M)(hD:GraphD ps v D)(hv:v<4)(l:List B8):M (pathB,l)↔ ∃x y,l=[x,y]/\Comes (ed M) x y:=by
 refine⟨path_sound hM hD hv,?_⟩;rintro⟨x,y,rfl,h⟩;have h4:v=0\/v=1\/v=2\/v=3:=by omega
 rcases h4 with rfl|rfl|rfl|rfl
 ·refine Comes.rec' (P:=fun x y=>M (pathB,[x,y])) ?_ ?_ h
  ·intro x y e
   exact hM.use hD (pathB,[vX,vY],[⟨edgeB,[vX,vY],false⟩]) (.inr (by simp[rulesV])) (fillV x y y) (by
    intro l hl;simp only[List.mem_cons,List.not_mem_nil,or_false]at hl;subst hl;exact⟨fun _=>e,fun h=>by simp at h⟩)
  ·intro x y z k e
   exact hM.use hD (pathB,[vX,vZ],[⟨pathB,[vX,vY],false⟩,⟨edgeB,[vY,vZ],false⟩]) (.inr (by simp[rulesV])) (fillV x y z) (by
    intro l hl;simp only[List.mem_cons,List.not_mem_nil,or_false]at hl;rcases hl with rfl|rfl
    ·exact⟨fun _=>k,fun h=>by simp at h⟩
    ·exact⟨fun _=>e,fun h=>by simp at h⟩)
 ·have key:∀n x y,along (ed M) n x y->∀z,M (pathB,[y,z])->M (pathB,[x,z]):=by
   have one:∀x y z,ed M x y->M (pathB,[y,z])->M (pathB,[x,z]):=fun x y z e k=>
    hM.use hD (pathB,[vX,vZ],[⟨edgeB,[vX,vY],false⟩,⟨pathB,[vY,vZ],false⟩]) (.inr (by simp[rulesV])) (fillV x y z) (by
     intro l hl;simp only[List.mem_cons,List.not_mem_nil,or_false]at hl;rcases hl with rfl|rfl
     ·exact⟨fun _=>e,fun h=>by simp at h⟩
     ·exact⟨fun _=>k,fun h=>by simp at h⟩)
   intro n
   induction n with
   |zero=>intro x y e z k;exact one x y z e k
   |succ n ih=>rintro x y ⟨u,h1,h2⟩ z k;exact ih x u h1 z (one u y z h2 k)
  have two:∀x y,ed M x y->M (pathB,[x,y]):=fun x y e=>
   hM.use hD (pathB,[vX,vY],[⟨edgeB,[vX,vY],false⟩]) (.inr (by simp[rulesV])) (fillV x y y) (by
    intro l hl;simp only[List.mem_cons,List.not_mem_nil,or_false]at hl;subst hl;exact⟨fun _=>e,fun h=>by simp at h⟩)
  obtain⟨n,h⟩:=h
  cases n with
  |zero=>exact two _ _ h
  |succ n=>obtain⟨u,h1,h2⟩:=h;exact key n x u h1 y (two _ _ h2)
 ·have one:∀x y,ed M x y->M (pathB,[x,y]):=fun x y e=>
   hM.use hD (pathB,[vA,vB],[⟨edgeB,[vA,vB],false⟩]) (.inr (by simp[rulesV])) (fillV x y y) (by
    intro l hl;simp only[List.mem_cons,List.not_mem_nil,or_false]at hl;subst hl;exact⟨fun _=>e,fun h=>by simp at h⟩)
  refine Comes.rec' (P:=fun x y=>M (pathB,[x,y])) one ?_ h;intro x y z k e
  exact hM.use hD (pathB,[vA,vC],[⟨pathB,[vA,vB],false⟩,⟨pathB,[vB,vC],false⟩]) (.inr (by simp[rulesV])) (fillV x y z) (by
   intro l hl;simp only[List.mem_cons,List.not_mem_nil,or_false]at hl;rcases hl with rfl|rfl
   ·exact⟨fun _=>k,fun h=>by simp at h⟩
   ·exact⟨fun _=>one _ _ e,fun h=>by simp at h⟩)
 ·have hop:∀x y,M (hopB,[x,y])->M (pathB,[x,y]):=fun x y e=>
   hM.use hD (pathB,[vX,vY],[⟨hopB,[vX,vY],false⟩]) (.inr (by simp[rulesV])) (fillV x y y) (by
    intro l hl;simp only[List.mem_cons,List.not_mem_nil,or_false]at hl;subst hl;exact⟨fun _=>e,fun h=>by simp at h⟩)
  have one:∀x y,ed M x y->M (hopB,[x,y]):=fun x y e=>
   hM.use hD (hopB,[vX,vY],[⟨edgeB,[vX,vY],false⟩]) (.inr (by simp[rulesV])) (fillV x y y) (by
    intro l hl;simp only[List.mem_cons,List.not_mem_nil,or_false]at hl;subst hl;exact⟨fun _=>e,fun h=>by simp at h⟩)
  refine hop _ _ (Comes.rec' (P:=fun x y=>M (hopB,[x,y])) one ?_ h);intro x y z k e
  exact hM.use hD (hopB,[vX,vZ],[⟨hopB,[vX,vY],false⟩,⟨pathB,[vY,vZ],false⟩]) (.inr (by simp[rulesV])) (fillV x y z) (by
   intro l hl;simp only[List.mem_cons,List.not_mem_nil,or_false]at hl;rcases hl with rfl|rfl
   ·exact⟨fun _=>k,fun h=>by simp at h⟩
   ·exact⟨fun _=>hop _ _ (one _ _ e),fun h=>by simp at h⟩)
theorem one_iff(hM:StableD D M)(hD:GraphD ps v D)(hs:Small ps){n:B8}(hn:n≠edgeB){c:Cor}(hc:ofName v n=[c])(l:List B8):M (n,l)↔ ∃s,l=putsT s c.2.1/\∀l∈c.2.2,(l.neg=false->M (l.put s))/\(l.neg=true->¬M (l.put s)):=by
 constructor
 ·intro h;obtain⟨c',h1,s,h2,h3⟩:=hM.rules hD hs hn h;rw[hc,List.mem_singleton]at h1;subst h1;exact⟨s,h2,h3⟩
 ·rintro⟨s,rfl,h⟩;have h1:c∈ofName v n:=by rw[hc];simp
  obtain⟨h1,h2⟩:=List.mem_filter.1 h1;have:=hM.use hD c (List.mem_append.1 h1) s h;rw[of_decide_eq_true h2]at this;exact this
theorem out_iff(hM:StableD D M)(hD:GraphD ps v D)(hs:Small ps)(hv:v<4)(x:B8):M (outB,[x])↔ ∃y,M (edgeB,[x,y]):=by
 rw[one_iff hM hD hs (by decide) (c:=(outB,[vX],[⟨edgeB,[vX,vY],false⟩])) (four' (P:=fun v=>ofName v outB=[(outB,[vX],[⟨edgeB,[vX,vY],false⟩])]) rfl rfl rfl rfl v hv)];constructor
 ·rintro⟨s,e,h⟩;have e:[x]=[s vX]:=e;simp only[List.cons.injEq,and_true]at e;rw[e];exact⟨s vY,(h ⟨edgeB,[vX,vY],false⟩ (by simp)).1 rfl⟩
 ·rintro⟨y,h⟩;exact⟨fillV x y y,rfl,by intro l hl;simp only[List.mem_singleton]at hl;subst hl;exact⟨fun _=>h,fun h=>by simp at h⟩⟩
theorem some_iff(hM:StableD D M)(hD:GraphD ps v D)(hs:Small ps)(hv:v<4)(x:B8):M (someB,[x])↔ ∃y,M (pathB,[x,y]):=by
 rw[one_iff hM hD hs (by decide) (c:=(someB,[vX],[⟨pathB,[vX,vY],false⟩])) (four' (P:=fun v=>ofName v someB=[(someB,[vX],[⟨pathB,[vX,vY],false⟩])]) rfl rfl rfl rfl v hv)];constructor
 ·rintro⟨s,e,h⟩;have e:[x]=[s vX]:=e;simp only[List.cons.injEq,and_true]at e;rw[e];exact⟨s vY,(h ⟨pathB,[vX,vY],false⟩ (by simp)).1 rfl⟩
 ·rintro⟨y,h⟩;exact⟨fillV x y y,rfl,by intro l hl;simp only[List.mem_singleton]at hl;subst hl;exact⟨fun _=>h,fun h=>by simp at h⟩⟩
theorem apart_iff(hM:StableD D M)(hD:GraphD ps v D)(hs:Small ps)(hv:v<4)(l:List B8):M (apartB,l)↔ ∃x y,l=[x,y]/\M (ndB,[x])/\M (ndB,[y])/\¬M (pathB,[x,y]):=by
 rw[one_iff hM hD hs (by decide) (c:=(apartB,[vX,vY],[⟨ndB,[vX],false⟩,⟨ndB,[vY],false⟩,⟨pathB,[vX,vY],true⟩])) (four' (P:=fun v=>ofName v apartB=[(apartB,[vX,vY],[⟨ndB,[vX],false⟩,⟨ndB,[vY],false⟩,⟨pathB,[vX,vY],true⟩])]) rfl rfl rfl rfl v hv)];constructor
 ·rintro⟨s,e,h⟩;exact⟨s vX,s vY,e,(h ⟨ndB,[vX],false⟩ (by simp)).1 rfl,(h ⟨ndB,[vY],false⟩ (by simp)).1 rfl,(h ⟨pathB,[vX,vY],true⟩ (by simp)).2 rfl⟩
 ·rintro⟨x,y,rfl,h1,h2,h3⟩;refine⟨fillV x y y,rfl,?_⟩;intro l hl;simp only[List.mem_cons,List.not_mem_nil,or_false]at hl;rcases hl with rfl|rfl|rfl
  ·exact⟨fun _=>h1,fun h=>by simp at h⟩
  ·exact⟨fun _=>h2,fun h=>by simp at h⟩
  ·exact⟨fun h=>by simp at h,fun _=>h3⟩
theorem sink_iff(hM:StableD D M)(hD:GraphD ps v D)(hs:Small ps)(hv:v<4)(l:List B8):M (sinkB,l)↔ ∃x,l=[x]/\M (ndB,[x])/\¬M (outB,[x]):=by
 rw[one_iff hM hD hs (by decide) (c:=(sinkB,[vX],[⟨ndB,[vX],false⟩,⟨outB,[vX],true⟩])) (four' (P:=fun v=>ofName v sinkB=[(sinkB,[vX],[⟨ndB,[vX],false⟩,⟨outB,[vX],true⟩])]) rfl rfl rfl rfl v hv)];constructor
 ·rintro⟨s,e,h⟩;exact⟨s vX,e,(h ⟨ndB,[vX],false⟩ (by simp)).1 rfl,(h ⟨outB,[vX],true⟩ (by simp)).2 rfl⟩
 ·rintro⟨x,rfl,h1,h3⟩;refine⟨fillV x x x,rfl,?_⟩;intro l hl;simp only[List.mem_cons,List.not_mem_nil,or_false]at hl;rcases hl with rfl|rfl
  ·exact⟨fun _=>h1,fun h=>by simp at h⟩
  ·exact⟨fun h=>by simp at h,fun _=>h3⟩
theorem lone_iff(hM:StableD D M)(hD:GraphD ps v D)(hs:Small ps)(hv:v<4)(l:List B8):M (loneB,l)↔ ∃x y,l=[x]/\M (apartB,[x,y])/\¬M (someB,[x]):=by
 rw[one_iff hM hD hs (by decide) (c:=(loneB,[vX],[⟨apartB,[vX,vY],false⟩,⟨someB,[vX],true⟩])) (four' (P:=fun v=>ofName v loneB=[(loneB,[vX],[⟨apartB,[vX,vY],false⟩,⟨someB,[vX],true⟩])]) rfl rfl rfl rfl v hv)];constructor
 ·rintro⟨s,e,h⟩;exact⟨s vX,s vY,e,(h ⟨apartB,[vX,vY],false⟩ (by simp)).1 rfl,(h ⟨someB,[vX],true⟩ (by simp)).2 rfl⟩
 ·rintro⟨x,y,rfl,h1,h3⟩;refine⟨fillV x y y,rfl,?_⟩;intro l hl;simp only[List.mem_cons,List.not_mem_nil,or_false]at hl;rcases hl with rfl|rfl
  ·exact⟨fun _=>h1,fun h=>by simp at h⟩
  ·exact⟨fun h=>by simp at h,fun _=>h3⟩
theorem node_inj{i k:Nat}(hi:i<4)(hk:k<4)(h:nodeB i=nodeB k):i=k:=by
 have h1:i=0\/i=1\/i=2\/i=3:=by omega
 have h2:k=0\/k=1\/k=2\/k=3:=by omega
 rcases h1 with rfl|rfl|rfl|rfl<;>rcases h2 with rfl|rfl|rfl|rfl<;>first|rfl|exact absurd h (by decide)
theorem comes_leads{E:B8->B8->Prop}{g:Nat->Nat->Bool}(hE:∀x y,E x y↔ ∃i k,i<4/\k<4/\g i k=true/\x=nodeB i/\y=nodeB k)(x y:B8):Comes E x y↔ ∃i k,i<4/\k<4/\Leads g i k/\x=nodeB i/\y=nodeB k:=by
 constructor
 ·intro h;refine Comes.rec' (P:=fun x y=>∃i k,i<4/\k<4/\Leads g i k/\x=nodeB i/\y=nodeB k) ?_ ?_ h
  ·intro x y e;obtain⟨i,k,hi,hk,e,h1,h2⟩:=(hE x y).1 e;exact⟨i,k,hi,hk,⟨0,e⟩,h1,h2⟩
  ·rintro x y z ⟨i,k,hi,hk,⟨n,hw⟩,h1,h2⟩ e;obtain⟨j,m,hj,hm,e,h3,h4⟩:=(hE y z).1 e;have:=node_inj hk hj (h2.symm.trans h3);subst this;exact⟨i,m,hi,hm,⟨n+1,k,hk,hw,e⟩,h1,h4⟩
 ·rintro⟨i,k,hi,hk,⟨n,hw⟩,rfl,rfl⟩
  induction n generalizing k with
  |zero=>exact .one ((hE _ _).2 ⟨i,k,hi,hk,hw,rfl,rfl⟩)
  |succ n ih=>obtain⟨m,hm,hw,e⟩:=hw;exact(ih m hm hw).tail ((hE _ _).2 ⟨m,k,hm,hk,e,rfl,rfl⟩)
end
end
section
structure GraphM(g p:Nat->Nat->Bool)(ps:List (Nat×Nat))(v:Nat)(D:List ClD)(M:BA->Prop):Prop where
 small:Small ps
 is:∀i k,i<4->k<4->((i,k)∈ps↔g i k=true)
 leads:∀i k,i<4->k<4->(p i k=true↔Leads g i k)
 four:v<4
 cls:GraphD ps v D
 stable:StableD D M
section
variable {g p:Nat->Nat->Bool} {ps:List (Nat×Nat)} {v:Nat} {D:List ClD} {M:BA->Prop}
theorem GraphM.edge(h:GraphM g p ps v D M)(l:List B8):M (edgeB,l)↔ ∃i k,i<4/\k<4/\g i k=true/\l=[nodeB i,nodeB k]:=by
 rw[edge_iff h.stable h.cls h.small h.four];constructor
 ·rintro⟨⟨i,k⟩,hp,e⟩;have:=h.small _ hp;exact⟨i,k,this.1,this.2,(h.is i k this.1 this.2).1 hp,e⟩
 ·rintro⟨i,k,hi,hk,hg,e⟩;exact⟨(i,k),(h.is i k hi hk).2 hg,e⟩
theorem GraphM.path(h:GraphM g p ps v D M)(l:List B8):M (pathB,l)↔ ∃i k,i<4/\k<4/\p i k=true/\l=[nodeB i,nodeB k]:=by
 rw[path_iff h.stable h.cls h.four]
 have hE:∀x y,ed M x y↔ ∃i k,i<4/\k<4/\g i k=true/\x=nodeB i/\y=nodeB k:=by
  intro x y;refine(h.edge [x,y]).trans ?_;constructor
  ·rintro⟨i,k,hi,hk,hg,e⟩;simp only[List.cons.injEq,and_true]at e;exact⟨i,k,hi,hk,hg,e⟩
  ·rintro⟨i,k,hi,hk,hg,rfl,rfl⟩;exact⟨i,k,hi,hk,hg,rfl⟩
 constructor
 ·rintro⟨x,y,rfl,hc⟩;obtain⟨i,k,hi,hk,hl,rfl,rfl⟩:=(comes_leads hE x y).1 hc;exact⟨i,k,hi,hk,(h.leads i k hi hk).2 hl,rfl⟩
 ·rintro⟨i,k,hi,hk,hl,rfl⟩;exact⟨_,_,rfl,(comes_leads hE _ _).2 ⟨i,k,hi,hk,(h.leads i k hi hk).1 hl,rfl,rfl⟩⟩
theorem GraphM.out(h:GraphM g p ps v D M)(x:B8):M (outB,[x])↔ ∃i,i<4/\(∃k,k<4/\g i k=true)/\x=nodeB i:=by
 rw[out_iff h.stable h.cls h.small h.four];constructor
 ·rintro⟨y,hy⟩;obtain⟨i,k,hi,hk,hg,e⟩:=(h.edge _).1 hy;simp only[List.cons.injEq,and_true]at e;exact⟨i,hi,⟨k,hk,hg⟩,e.1⟩
 ·rintro⟨i,hi,⟨k,hk,hg⟩,rfl⟩;exact⟨nodeB k,(h.edge _).2 ⟨i,k,hi,hk,hg,rfl⟩⟩
theorem GraphM.nd(h:GraphM g p ps v D M)(x:B8):M (ndB,[x])↔ ∃i,i<4/\x=nodeB i:=by
 rw[nd_iff h.stable h.cls h.small h.four];constructor
 ·rintro⟨i,hi,e⟩;simp only[List.cons.injEq,and_true]at e;exact⟨i,hi,e⟩
 ·rintro⟨i,hi,rfl⟩;exact⟨i,hi,rfl⟩
theorem GraphM.apart(h:GraphM g p ps v D M)(l:List B8):M (apartB,l)↔ ∃i k,i<4/\k<4/\p i k=false/\l=[nodeB i,nodeB k]:=by
 rw[apart_iff h.stable h.cls h.small h.four];constructor
 ·rintro⟨x,y,rfl,h1,h2,h3⟩;obtain⟨i,hi,rfl⟩:=(h.nd x).1 h1;obtain⟨k,hk,rfl⟩:=(h.nd y).1 h2;refine⟨i,k,hi,hk,?_,rfl⟩;cases hp:p i k
  ·rfl
  ·exact absurd ((h.path _).2 ⟨i,k,hi,hk,hp,rfl⟩) h3
 ·rintro⟨i,k,hi,hk,hp,rfl⟩;refine⟨_,_,rfl,(h.nd _).2 ⟨i,hi,rfl⟩,(h.nd _).2 ⟨k,hk,rfl⟩,?_⟩;intro hM;obtain⟨i',k',hi',hk',hp',e⟩:=(h.path _).1 hM;simp only[List.cons.injEq,and_true]at e;rw[node_inj hi hi' e.1,node_inj hk hk' e.2,hp']at hp;simp at hp
theorem GraphM.sink(h:GraphM g p ps v D M)(l:List B8):M (sinkB,l)↔ ∃i,i<4/\(∀k,k<4->g i k=false)/\l=[nodeB i]:=by
 rw[sink_iff h.stable h.cls h.small h.four];constructor
 ·rintro⟨x,rfl,h1,h2⟩;obtain⟨i,hi,rfl⟩:=(h.nd x).1 h1;refine⟨i,hi,?_,rfl⟩;intro k hk;cases hg:g i k
  ·rfl
  ·exact absurd ((h.out _).2 ⟨i,hi,⟨k,hk,hg⟩,rfl⟩) h2
 ·rintro⟨i,hi,hn,rfl⟩;refine⟨_,rfl,(h.nd _).2 ⟨i,hi,rfl⟩,?_⟩;intro hM;obtain⟨i',hi',⟨k,hk,hg⟩,e⟩:=(h.out _).1 hM;rw[node_inj hi hi' e]at hn;rw[hn k hk]at hg;simp at hg
theorem leads_first{i k:Nat}(h:Leads g i k):∃m,g i m=true/\(m<4\/m=k):=by
 obtain⟨n,h⟩:=h
 induction n generalizing k with
 |zero=>exact⟨k,h,.inr rfl⟩
 |succ n ih=>obtain⟨m,hm,h,_⟩:=h;obtain⟨u,hu,h⟩:=ih h;exact⟨u,hu,.inl (by rcases h with h|h<;>omega)⟩
theorem GraphM.some(h:GraphM g p ps v D M)(x:B8):M (someB,[x])↔ ∃i,i<4/\(∃k,k<4/\g i k=true)/\x=nodeB i:=by
 rw[some_iff h.stable h.cls h.small h.four];constructor
 ·rintro⟨y,hy⟩;obtain⟨i,k,hi,hk,hp,e⟩:=(h.path _).1 hy;simp only[List.cons.injEq,and_true]at e;obtain⟨m,hm,h4⟩:=leads_first ((h.leads i k hi hk).1 hp);exact⟨i,hi,⟨m,by rcases h4 with h4|h4<;>omega,hm⟩,e.1⟩
 ·rintro⟨i,hi,⟨k,hk,hg⟩,rfl⟩;exact⟨nodeB k,(h.path _).2 ⟨i,k,hi,hk,(h.leads i k hi hk).2 ⟨0,hg⟩,rfl⟩⟩
theorem GraphM.lone(h:GraphM g p ps v D M)(l:List B8):M (loneB,l)↔ ∃i,i<4/\(∀k,k<4->g i k=false)/\l=[nodeB i]:=by
 rw[lone_iff h.stable h.cls h.small h.four];constructor
 ·rintro⟨x,y,rfl,h1,h2⟩;obtain⟨i,k,hi,hk,hp,e⟩:=(h.apart _).1 h1;simp only[List.cons.injEq,and_true]at e;obtain⟨rfl,rfl⟩:=e;refine⟨i,hi,?_,rfl⟩;intro k hk;cases hg:g i k
  ·rfl
  ·exact absurd ((h.some _).2 ⟨i,hi,⟨k,hk,hg⟩,rfl⟩) h2
 ·rintro⟨i,hi,hn,rfl⟩
  have hp:p i 0=false:=by
   cases hp:p i 0
   ·rfl
   ·obtain⟨m,hm,h4⟩:=leads_first ((h.leads i 0 hi (by omega)).1 hp);rw[hn m (by rcases h4 with h4|h4<;>omega)]at hm;simp at hm
  refine⟨_,nodeB 0,rfl,(h.apart _).2 ⟨i,0,hi,by omega,hp,rfl⟩,?_⟩;intro hM;obtain⟨i',hi',⟨k,hk,hg⟩,e⟩:=(h.some _).1 hM;rw[node_inj hi hi' e]at hn;rw[hn k hk]at hg;simp at hg
end
end
end Go.Proofs.YtpbfiffgcgnidaaGreat
