import Derived.Test.YtpbfiffgcgnidaaGreatYal
import Derived.Test.YtpbfiffgcgnidaaGreatY23
import Derived.Test.YtpbfiffgcgnidaaGreatY40
import Derived.Test.YtpbfiffgcgnidaaGreatY41
namespace Go.Proofs.YtpbfiffgcgnidaaGreat
set_option maxRecDepth 100000
set_option maxHeartbeats 4000000
set_option linter.unusedSimpArgs false
section
def As:B8:=[112,97,116,104]
def E6:B8:=[110,111,100,101]
def Cv:B8:=[97,112,97,114,116]
def FO:B8:=[115,105,110,107]
def DT:B8:=[111,117,116]
def FP:B8:=[108,111,110,101]
def Gg:B8:=[115,111,109,101]
def Ep:B8:=[104,111,112]
def vA:B8:=[65]
def vB:B8:=[66]
def vC:B8:=[67]
def vX:B8:=[88]
def vY:B8:=[89]
def vZ:B8:=[90]
abbrev Nu:=B8×List B8×List AG
def Ap.cor(d:Ap):Nu:=(d.name,d.ts,d.lits)
def BH:List Nu:=[(E6,[Ad 0],[]),(E6,[Ad 1],[]),(E6,[Ad 2],[]),(E6,[Ad 3],[]),
 (Cv,[vX,vY],[⟨E6,[vX],false⟩,⟨E6,[vY],false⟩,⟨As,[vX,vY],true⟩]),
 (FO,[vX],[⟨E6,[vX],false⟩,⟨DT,[vX],true⟩]),
 (DT,[vX],[⟨AH,[vX,vY],false⟩]),
 (FP,[vX],[⟨Cv,[vX,vY],false⟩,⟨Gg,[vX],true⟩]),
 (Gg,[vX],[⟨As,[vX,vY],false⟩])]
def Bw:Nat->List Nu
 |0=>[(As,[vX,vY],[⟨AH,[vX,vY],false⟩]),(As,[vX,vZ],[⟨As,[vX,vY],false⟩,⟨AH,[vY,vZ],false⟩])]
 |1=>[(As,[vX,vZ],[⟨AH,[vX,vY],false⟩,⟨As,[vY,vZ],false⟩]),(As,[vX,vY],[⟨AH,[vX,vY],false⟩])]
 |2=>[(As,[vA,vC],[⟨As,[vA,vB],false⟩,⟨As,[vB,vC],false⟩]),(As,[vA,vB],[⟨AH,[vA,vB],false⟩])]
 |_=>[(As,[vX,vY],[⟨Ep,[vX,vY],false⟩]),(Ep,[vX,vY],[⟨AH,[vX,vY],false⟩]),(Ep,[vX,vZ],[⟨Ep,[vX,vY],false⟩,⟨As,[vY,vZ],false⟩])]
structure B1(ps:List (Nat×Nat))(v:Nat)(D:List Ap):Prop where
 of:∀d∈D,(∃p∈ps,d.cor=(BC p).cor)\/d.cor∈BH\/d.cor∈Bw v
 fact:∀p∈ps,∃d∈D,d.cor=(BC p).cor
 rule:∀c,c∈BH\/c∈Bw v->∃d∈D,d.cor=c
def Nh(E:B8->B8->Prop):Nat->B8->B8->Prop
 |0,x,y=>E x y
 |n+1,x,y=>∃z,Nh E n x z/\E z y
def Cz(E:B8->B8->Prop)(x y:B8):Prop:=∃n,Nh E n x y
section
variable {E:B8->B8->Prop} {x y z:B8}
theorem Cz.one(h:E x y):Cz E x y:=⟨0,h⟩
theorem Cz.tail(h:Cz E x y)(k:E y z):Cz E x z:=by obtain⟨n,h⟩:=h;exact⟨n+1,y,h,k⟩
theorem Cz.trans(h:Cz E x y)(k:Cz E y z):Cz E x z:=by
 obtain⟨n,k⟩:=k
 induction n generalizing z with
 |zero=>exact h.tail k
 |succ n ih=>obtain⟨u,k,e⟩:=k;exact(ih k).tail e
theorem Cz.rec'{P:B8->B8->Prop}(h1:∀x y,E x y->P x y)(h2:∀x y z,P x y->E y z->P x z)(h:Cz E x y):P x y:=by
 obtain⟨n,h⟩:=h
 induction n generalizing y with
 |zero=>exact h1 _ _ h
 |succ n ih=>obtain⟨u,k,e⟩:=h;exact h2 _ _ _ (ih k) e
end
def Ee(x y z:B8)(t:B8):B8:=if t=vX\/t=vA then x else if t=vY\/t=vB then y else z
section
variable {ps:List (Nat×Nat)} {v:Nat} {D:List Ap} {M:BA->Prop}
theorem ED{d:Ap}{n:B8}{ts:List B8}{ls:List AG}(h:d.cor=(n,ts,ls))(s:B8->B8):d.put s=(n,Az s ts)/\d.lits=ls:=by unfold Ap.cor at h;simp only[Prod.mk.injEq]at h;obtain⟨h1,h2,h3⟩:=h;exact⟨by unfold Ap.put;rw[h1,h2],h3⟩
theorem A1.use(hM:A1 D M)(hD:B1 ps v D)(c:Nu)(hc:c∈BH\/c∈Bw v)(s:B8->B8)(h:∀l∈c.2.2,(l.neg=false->M (l.put s))/\(l.neg=true->¬M (l.put s))):M (c.1,Az s c.2.1):=by obtain⟨d,hd,e⟩:=hD.rule c hc;obtain⟨n,ts,ls⟩:=c;obtain⟨h1,h2⟩:=ED e s;have:=hM.closed d hd s (by intro l hl;rw[h2]at hl;exact h l hl);rw[h1]at this;exact this
theorem A1.inv(hM:A1 D M){b:BA}(h:M b):∃d∈D,∃s,b=d.put s/\JI M d s:=
 hM.least (fun b=>∃d∈D,∃s,b=d.put s/\JI M d s) (fun d hd s hm _=>⟨d,hd,s,rfl,hm⟩) b h
theorem CP(s:B8->B8)(k:Nat)(hk:k<4):CA s (Ad k)=Ad k:=by
 have h1:k=0\/k=1\/k=2\/k=3:=by omega
 rcases h1 with rfl|rfl|rfl|rfl<;>rfl
theorem A1.by_name(hM:A1 D M)(hD:B1 ps v D)(hs:CK ps){n:B8}{l:List B8}(h:M (n,l)):
 (n=AH/\∃p∈ps,l=[Ad p.1,Ad p.2])\/∃c,(c∈BH\/c∈Bw v)/\c.1=n/\∃s,l=Az s c.2.1/\∀l∈c.2.2,(l.neg=false->M (l.put s))/\(l.neg=true->¬M (l.put s)):=by
 obtain⟨d,hd,s,e,hm⟩:=hM.inv h;rcases hD.of d hd with⟨p,hp,hc⟩|hc
 ·obtain⟨h1,_⟩:=ED (n:=AH) (ts:=[Ad p.1,Ad p.2]) (ls:=[]) hc s;rw[h1,Prod.mk.injEq]at e;refine .inl ⟨e.1,p,hp,?_⟩;rw[e.2];simp only[Az,List.map_cons,List.map_nil,CP s _ (hs p hp).1,CP s _ (hs p hp).2]
 ·obtain⟨h1,h2⟩:=ED (n:=d.cor.1) (ts:=d.cor.2.1) (ls:=d.cor.2.2) rfl s;rw[h1,Prod.mk.injEq]at e;refine .inr ⟨d.cor,hc,e.1.symm,s,e.2,?_⟩;rw[<-h2];exact hm
theorem Du{P:Nat->Prop}(h0:P 0)(h1:P 1)(h2:P 2)(h3:P 3)(v:Nat)(hv:v<4):P v:=by
 have h:v=0\/v=1\/v=2\/v=3:=by omega
 rcases h with rfl|rfl|rfl|rfl<;>assumption
def Dq(v:Nat)(n:B8):List Nu:=(BH++Bw v).filter fun c=>decide (c.1=n)
theorem A1.rules(hM:A1 D M)(hD:B1 ps v D)(hs:CK ps){n:B8}(hn:n≠AH){l:List B8}(h:M (n,l)):
 ∃c∈Dq v n,∃s,l=Az s c.2.1/\∀l∈c.2.2,(l.neg=false->M (l.put s))/\(l.neg=true->¬M (l.put s)):=by
 rcases hM.by_name hD hs h with⟨h,_⟩|⟨c,hc,h1,s,h2,h3⟩
 ·exact absurd h hn
 ·exact⟨c,List.mem_filter.2 ⟨List.mem_append.2 hc,decide_eq_true h1⟩,s,h2,h3⟩
theorem MW(hM:A1 D M)(hD:B1 ps v D)(hs:CK ps)(hv:v<4)(l:List B8):M (AH,l)↔ ∃p∈ps,l=[Ad p.1,Ad p.2]:=by
 constructor
 ·intro h;rcases hM.by_name hD hs h with⟨_,h⟩|⟨c,hc,h1,_⟩
  ·exact h
  ·have:c∈Dq v AH:=List.mem_filter.2 ⟨List.mem_append.2 hc,decide_eq_true h1⟩;rw[show Dq v AH=[] from Du (P:=fun v=>Dq v AH=[]) (by decide) (by decide) (by decide) (by decide) v hv]at this;simp at this
 ·rintro⟨p,hp,rfl⟩;obtain⟨d,hd,e⟩:=hD.fact p hp;obtain⟨h1,h2⟩:=ED (n:=AH) (ts:=[Ad p.1,Ad p.2]) (ls:=[]) e id;have:=hM.closed d hd id (by intro l hl;rw[h2]at hl;simp at hl);rw[h1]at this;simpa only[Az,List.map_cons,List.map_nil,CP id _ (hs p hp).1,CP id _ (hs p hp).2]using this
theorem OY(hM:A1 D M)(hD:B1 ps v D)(hs:CK ps)(hv:v<4)(l:List B8):M (E6,l)↔ ∃k,k<4/\l=[Ad k]:=by
 constructor
 ·intro h;obtain⟨c,hc,s,h2,_⟩:=hM.rules hD hs (by decide) h;rw[show Dq v E6=[(E6,[Ad 0],[]),(E6,[Ad 1],[]),(E6,[Ad 2],[]),(E6,[Ad 3],[])] from Du (P:=fun v=>Dq v E6=[(E6,[Ad 0],[]),(E6,[Ad 1],[]),(E6,[Ad 2],[]),(E6,[Ad 3],[])]) rfl rfl rfl rfl v hv]at hc;simp only[List.mem_cons,List.not_mem_nil,or_false]at hc;rcases hc with rfl|rfl|rfl|rfl
  ·exact⟨0,by omega,h2⟩
  ·exact⟨1,by omega,h2⟩
  ·exact⟨2,by omega,h2⟩
  ·exact⟨3,by omega,h2⟩
 ·rintro⟨k,hk,rfl⟩;have key:∀k,k<4->(E6,[Ad k],[])∈BH:=Du (P:=fun k=>(E6,[Ad k],[])∈BH) (by simp[BH]) (by simp[BH]) (by simp[BH]) (by simp[BH]);have:=hM.use hD (E6,[Ad k],[]) (.inl (key k hk)) id (by simp);simpa only[Az,List.map_cons,List.map_nil,CP id k hk]using this
def ed(M:BA->Prop)(x y:B8):Prop:=M (AH,[x,y])
theorem J2(hM:A1 D M)(hD:B1 ps v D)(hv:v<4){l:List B8}(h:M (As,l)):∃x y,l=[x,y]/\Cz (ed M) x y:=by
 have key:=hM.least (fun b=>b.1=As\/b.1=Ep->∃x y,b.2=[x,y]/\Cz (ed M) x y) (by
  intro d hd s hm hp hn;rcases hD.of d hd with⟨p,_,hc⟩|hc
  ·obtain⟨h1,_⟩:=ED (n:=AH) (ts:=[Ad p.1,Ad p.2]) (ls:=[]) hc s;rw[h1]at hn;exact absurd (show AH=As\/AH=Ep from hn) (by decide)
  ·generalize hcc:d.cor=c at hc;obtain⟨n,ts,ls⟩:=c;obtain⟨h1,h2⟩:=ED hcc s;rw[h1]at hn⊢;have hn:n=As\/n=Ep:=hn;unfold JI at hm;rw[h2]at hm hp;rcases hc with hc|hc
   ·simp only[BH,List.mem_cons,List.not_mem_nil,or_false,Prod.mk.injEq]at hc;rcases hc with⟨rfl,_⟩|⟨rfl,_⟩|⟨rfl,_⟩|⟨rfl,_⟩|⟨rfl,_⟩|⟨rfl,_⟩|⟨rfl,_⟩|⟨rfl,_⟩|⟨rfl,_⟩<;>exact absurd hn (by decide)
   ·have h:v=0\/v=1\/v=2\/v=3:=by omega
    rcases h with rfl|rfl|rfl|rfl<;>simp only[Bw,List.mem_cons,List.not_mem_nil,or_false,Prod.mk.injEq]at hc
    ·rcases hc with⟨rfl,rfl,rfl⟩|⟨rfl,rfl,rfl⟩
     ·exact⟨s vX,s vY,rfl,.one ((hm ⟨AH,[vX,vY],false⟩ (by simp)).1 rfl)⟩
     ·obtain⟨x,y,e,k⟩:=hp ⟨As,[vX,vY],false⟩ (by simp) rfl (.inl rfl);have e:[s vX,s vY]=[x,y]:=e;simp only[List.cons.injEq,and_true]at e;obtain⟨rfl,rfl⟩:=e;exact⟨s vX,s vZ,rfl,k.tail ((hm ⟨AH,[vY,vZ],false⟩ (by simp)).1 rfl)⟩
    ·rcases hc with⟨rfl,rfl,rfl⟩|⟨rfl,rfl,rfl⟩
     ·obtain⟨x,y,e,k⟩:=hp ⟨As,[vY,vZ],false⟩ (by simp) rfl (.inl rfl);have e:[s vY,s vZ]=[x,y]:=e;simp only[List.cons.injEq,and_true]at e;obtain⟨rfl,rfl⟩:=e;exact⟨s vX,s vZ,rfl,(Cz.one ((hm ⟨AH,[vX,vY],false⟩ (by simp)).1 rfl)).trans k⟩
     ·exact⟨s vX,s vY,rfl,.one ((hm ⟨AH,[vX,vY],false⟩ (by simp)).1 rfl)⟩
    ·rcases hc with⟨rfl,rfl,rfl⟩|⟨rfl,rfl,rfl⟩
     ·obtain⟨x,y,e,k⟩:=hp ⟨As,[vA,vB],false⟩ (by simp) rfl (.inl rfl);have e:[s vA,s vB]=[x,y]:=e;simp only[List.cons.injEq,and_true]at e;obtain⟨rfl,rfl⟩:=e;obtain⟨x,y,e,k'⟩:=hp ⟨As,[vB,vC],false⟩ (by simp) rfl (.inl rfl);have e:[s vB,s vC]=[x,y]:=e;simp only[List.cons.injEq,and_true]at e;obtain⟨rfl,rfl⟩:=e;exact⟨s vA,s vC,rfl,k.trans k'⟩
     ·exact⟨s vA,s vB,rfl,.one ((hm ⟨AH,[vA,vB],false⟩ (by simp)).1 rfl)⟩
    ·rcases hc with⟨rfl,rfl,rfl⟩|⟨rfl,rfl,rfl⟩|⟨rfl,rfl,rfl⟩
     ·obtain⟨x,y,e,k⟩:=hp ⟨Ep,[vX,vY],false⟩ (by simp) rfl (.inr rfl);have e:[s vX,s vY]=[x,y]:=e;exact⟨x,y,e,k⟩
     ·exact⟨s vX,s vY,rfl,.one ((hm ⟨AH,[vX,vY],false⟩ (by simp)).1 rfl)⟩
     ·obtain⟨x,y,e,k⟩:=hp ⟨Ep,[vX,vY],false⟩ (by simp) rfl (.inr rfl);have e:[s vX,s vY]=[x,y]:=e;simp only[List.cons.injEq,and_true]at e;obtain⟨rfl,rfl⟩:=e;obtain⟨x,y,e,k'⟩:=hp ⟨As,[vY,vZ],false⟩ (by simp) rfl (.inl rfl);have e:[s vY,s vZ]=[x,y]:=e;simp only[List.cons.injEq,and_true]at e;obtain⟨rfl,rfl⟩:=e
      exact⟨s vX,s vZ,rfl,k.trans k'⟩) _ h
 exact key (.inl rfl)
theorem Mv(hM:A1 D M)(hD:B1 ps v D)(hv:v<4)(l:List B8):M (As,l)↔ ∃x y,l=[x,y]/\Cz (ed M) x y:=by
 refine⟨J2 hM hD hv,?_⟩;rintro⟨x,y,rfl,h⟩;have h4:v=0\/v=1\/v=2\/v=3:=by omega
 rcases h4 with rfl|rfl|rfl|rfl
 ·refine Cz.rec' (P:=fun x y=>M (As,[x,y])) ?_ ?_ h
  ·intro x y e
   exact hM.use hD (As,[vX,vY],[⟨AH,[vX,vY],false⟩]) (.inr (by simp[Bw])) (Ee x y y) (by
    intro l hl;simp only[List.mem_cons,List.not_mem_nil,or_false]at hl;subst hl;exact⟨fun _=>e,fun h=>by simp at h⟩)
  ·intro x y z k e
   exact hM.use hD (As,[vX,vZ],[⟨As,[vX,vY],false⟩,⟨AH,[vY,vZ],false⟩]) (.inr (by simp[Bw])) (Ee x y z) (by
    intro l hl;simp only[List.mem_cons,List.not_mem_nil,or_false]at hl;rcases hl with rfl|rfl
    ·exact⟨fun _=>k,fun h=>by simp at h⟩
    ·exact⟨fun _=>e,fun h=>by simp at h⟩)
 ·have key:∀n x y,Nh (ed M) n x y->∀z,M (As,[y,z])->M (As,[x,z]):=by
   have one:∀x y z,ed M x y->M (As,[y,z])->M (As,[x,z]):=fun x y z e k=>
    hM.use hD (As,[vX,vZ],[⟨AH,[vX,vY],false⟩,⟨As,[vY,vZ],false⟩]) (.inr (by simp[Bw])) (Ee x y z) (by
     intro l hl;simp only[List.mem_cons,List.not_mem_nil,or_false]at hl;rcases hl with rfl|rfl
     ·exact⟨fun _=>e,fun h=>by simp at h⟩
     ·exact⟨fun _=>k,fun h=>by simp at h⟩)
   intro n
   induction n with
   |zero=>intro x y e z k;exact one x y z e k
   |succ n ih=>rintro x y ⟨u,h1,h2⟩ z k;exact ih x u h1 z (one u y z h2 k)
  have two:∀x y,ed M x y->M (As,[x,y]):=fun x y e=>
   hM.use hD (As,[vX,vY],[⟨AH,[vX,vY],false⟩]) (.inr (by simp[Bw])) (Ee x y y) (by
    intro l hl;simp only[List.mem_cons,List.not_mem_nil,or_false]at hl;subst hl;exact⟨fun _=>e,fun h=>by simp at h⟩)
  obtain⟨n,h⟩:=h
  cases n with
  |zero=>exact two _ _ h
  |succ n=>obtain⟨u,h1,h2⟩:=h;exact key n x u h1 y (two _ _ h2)
 ·have one:∀x y,ed M x y->M (As,[x,y]):=fun x y e=>
   hM.use hD (As,[vA,vB],[⟨AH,[vA,vB],false⟩]) (.inr (by simp[Bw])) (Ee x y y) (by
    intro l hl;simp only[List.mem_cons,List.not_mem_nil,or_false]at hl;subst hl;exact⟨fun _=>e,fun h=>by simp at h⟩)
  refine Cz.rec' (P:=fun x y=>M (As,[x,y])) one ?_ h;intro x y z k e
  exact hM.use hD (As,[vA,vC],[⟨As,[vA,vB],false⟩,⟨As,[vB,vC],false⟩]) (.inr (by simp[Bw])) (Ee x y z) (by
   intro l hl;simp only[List.mem_cons,List.not_mem_nil,or_false]at hl;rcases hl with rfl|rfl
   ·exact⟨fun _=>k,fun h=>by simp at h⟩
   ·exact⟨fun _=>one _ _ e,fun h=>by simp at h⟩)
 ·have hop:∀x y,M (Ep,[x,y])->M (As,[x,y]):=fun x y e=>
   hM.use hD (As,[vX,vY],[⟨Ep,[vX,vY],false⟩]) (.inr (by simp[Bw])) (Ee x y y) (by
    intro l hl;simp only[List.mem_cons,List.not_mem_nil,or_false]at hl;subst hl;exact⟨fun _=>e,fun h=>by simp at h⟩)
  have one:∀x y,ed M x y->M (Ep,[x,y]):=fun x y e=>
   hM.use hD (Ep,[vX,vY],[⟨AH,[vX,vY],false⟩]) (.inr (by simp[Bw])) (Ee x y y) (by
    intro l hl;simp only[List.mem_cons,List.not_mem_nil,or_false]at hl;subst hl;exact⟨fun _=>e,fun h=>by simp at h⟩)
  refine hop _ _ (Cz.rec' (P:=fun x y=>M (Ep,[x,y])) one ?_ h);intro x y z k e
  exact hM.use hD (Ep,[vX,vZ],[⟨Ep,[vX,vY],false⟩,⟨As,[vY,vZ],false⟩]) (.inr (by simp[Bw])) (Ee x y z) (by
   intro l hl;simp only[List.mem_cons,List.not_mem_nil,or_false]at hl;rcases hl with rfl|rfl
   ·exact⟨fun _=>k,fun h=>by simp at h⟩
   ·exact⟨fun _=>hop _ _ (one _ _ e),fun h=>by simp at h⟩)
theorem Ii(hM:A1 D M)(hD:B1 ps v D)(hs:CK ps){n:B8}(hn:n≠AH){c:Nu}(hc:Dq v n=[c])(l:List B8):M (n,l)↔ ∃s,l=Az s c.2.1/\∀l∈c.2.2,(l.neg=false->M (l.put s))/\(l.neg=true->¬M (l.put s)):=by
 constructor
 ·intro h;obtain⟨c',h1,s,h2,h3⟩:=hM.rules hD hs hn h;rw[hc,List.mem_singleton]at h1;subst h1;exact⟨s,h2,h3⟩
 ·rintro⟨s,rfl,h⟩;have h1:c∈Dq v n:=by rw[hc];simp
  obtain⟨h1,h2⟩:=List.mem_filter.1 h1;have:=hM.use hD c (List.mem_append.1 h1) s h;rw[of_decide_eq_true h2]at this;exact this
theorem NJ(hM:A1 D M)(hD:B1 ps v D)(hs:CK ps)(hv:v<4)(x:B8):M (DT,[x])↔ ∃y,M (AH,[x,y]):=by
 rw[Ii hM hD hs (by decide) (c:=(DT,[vX],[⟨AH,[vX,vY],false⟩])) (Du (P:=fun v=>Dq v DT=[(DT,[vX],[⟨AH,[vX,vY],false⟩])]) rfl rfl rfl rfl v hv)];constructor
 ·rintro⟨s,e,h⟩;have e:[x]=[s vX]:=e;simp only[List.cons.injEq,and_true]at e;rw[e];exact⟨s vY,(h ⟨AH,[vX,vY],false⟩ (by simp)).1 rfl⟩
 ·rintro⟨y,h⟩;exact⟨Ee x y y,rfl,by intro l hl;simp only[List.mem_singleton]at hl;subst hl;exact⟨fun _=>h,fun h=>by simp at h⟩⟩
theorem Mk(hM:A1 D M)(hD:B1 ps v D)(hs:CK ps)(hv:v<4)(x:B8):M (Gg,[x])↔ ∃y,M (As,[x,y]):=by
 rw[Ii hM hD hs (by decide) (c:=(Gg,[vX],[⟨As,[vX,vY],false⟩])) (Du (P:=fun v=>Dq v Gg=[(Gg,[vX],[⟨As,[vX,vY],false⟩])]) rfl rfl rfl rfl v hv)];constructor
 ·rintro⟨s,e,h⟩;have e:[x]=[s vX]:=e;simp only[List.cons.injEq,and_true]at e;rw[e];exact⟨s vY,(h ⟨As,[vX,vY],false⟩ (by simp)).1 rfl⟩
 ·rintro⟨y,h⟩;exact⟨Ee x y y,rfl,by intro l hl;simp only[List.mem_singleton]at hl;subst hl;exact⟨fun _=>h,fun h=>by simp at h⟩⟩
theorem LV(hM:A1 D M)(hD:B1 ps v D)(hs:CK ps)(hv:v<4)(l:List B8):M (Cv,l)↔ ∃x y,l=[x,y]/\M (E6,[x])/\M (E6,[y])/\¬M (As,[x,y]):=by
 rw[Ii hM hD hs (by decide) (c:=(Cv,[vX,vY],[⟨E6,[vX],false⟩,⟨E6,[vY],false⟩,⟨As,[vX,vY],true⟩])) (Du (P:=fun v=>Dq v Cv=[(Cv,[vX,vY],[⟨E6,[vX],false⟩,⟨E6,[vY],false⟩,⟨As,[vX,vY],true⟩])]) rfl rfl rfl rfl v hv)];constructor
 ·rintro⟨s,e,h⟩;exact⟨s vX,s vY,e,(h ⟨E6,[vX],false⟩ (by simp)).1 rfl,(h ⟨E6,[vY],false⟩ (by simp)).1 rfl,(h ⟨As,[vX,vY],true⟩ (by simp)).2 rfl⟩
 ·rintro⟨x,y,rfl,h1,h2,h3⟩;refine⟨Ee x y y,rfl,?_⟩;intro l hl;simp only[List.mem_cons,List.not_mem_nil,or_false]at hl;rcases hl with rfl|rfl|rfl
  ·exact⟨fun _=>h1,fun h=>by simp at h⟩
  ·exact⟨fun _=>h2,fun h=>by simp at h⟩
  ·exact⟨fun h=>by simp at h,fun _=>h3⟩
theorem Ek{i k:Nat}(hi:i<4)(hk:k<4)(h:Ad i=Ad k):i=k:=by
 have h1:i=0\/i=1\/i=2\/i=3:=by omega
 have h2:k=0\/k=1\/k=2\/k=3:=by omega
 rcases h1 with rfl|rfl|rfl|rfl<;>rcases h2 with rfl|rfl|rfl|rfl<;>first|rfl|exact absurd h (by decide)
theorem FV{E:B8->B8->Prop}{g:Nat->Nat->Bool}(hE:∀x y,E x y↔ ∃i k,i<4/\k<4/\g i k=true/\x=Ad i/\y=Ad k)(x y:B8):Cz E x y↔ ∃i k,i<4/\k<4/\CL g i k/\x=Ad i/\y=Ad k:=by
 constructor
 ·intro h;refine Cz.rec' (P:=fun x y=>∃i k,i<4/\k<4/\CL g i k/\x=Ad i/\y=Ad k) ?_ ?_ h
  ·intro x y e;obtain⟨i,k,hi,hk,e,h1,h2⟩:=(hE x y).1 e;exact⟨i,k,hi,hk,⟨0,e⟩,h1,h2⟩
  ·rintro x y z ⟨i,k,hi,hk,⟨n,hw⟩,h1,h2⟩ e;obtain⟨j,m,hj,hm,e,h3,h4⟩:=(hE y z).1 e;have:=Ek hk hj (h2.symm.trans h3);subst this;exact⟨i,m,hi,hm,⟨n+1,k,hk,hw,e⟩,h1,h4⟩
 ·rintro⟨i,k,hi,hk,⟨n,hw⟩,rfl,rfl⟩
  induction n generalizing k with
  |zero=>exact .one ((hE _ _).2 ⟨i,k,hi,hk,hw,rfl,rfl⟩)
  |succ n ih=>obtain⟨m,hm,hw,e⟩:=hw;exact(ih m hm hw).tail ((hE _ _).2 ⟨m,k,hm,hk,e,rfl,rfl⟩)
end
end
section
structure CV(g p:Nat->Nat->Bool)(ps:List (Nat×Nat))(v:Nat)(D:List Ap)(M:BA->Prop):Prop where
 small:CK ps
 is:∀i k,i<4->k<4->((i,k)∈ps↔g i k=true)
 leads:∀i k,i<4->k<4->(p i k=true↔CL g i k)
 four:v<4
 cls:B1 ps v D
 stable:A1 D M
section
variable {g p:Nat->Nat->Bool} {ps:List (Nat×Nat)} {v:Nat} {D:List Ap} {M:BA->Prop}
theorem CV.edge(h:CV g p ps v D M)(l:List B8):M (AH,l)↔ ∃i k,i<4/\k<4/\g i k=true/\l=[Ad i,Ad k]:=by
 rw[MW h.stable h.cls h.small h.four];constructor
 ·rintro⟨⟨i,k⟩,hp,e⟩;have:=h.small _ hp;exact⟨i,k,this.1,this.2,(h.is i k this.1 this.2).1 hp,e⟩
 ·rintro⟨i,k,hi,hk,hg,e⟩;exact⟨(i,k),(h.is i k hi hk).2 hg,e⟩
theorem CV.path(h:CV g p ps v D M)(l:List B8):M (As,l)↔ ∃i k,i<4/\k<4/\p i k=true/\l=[Ad i,Ad k]:=by
 rw[Mv h.stable h.cls h.four]
 have hE:∀x y,ed M x y↔ ∃i k,i<4/\k<4/\g i k=true/\x=Ad i/\y=Ad k:=by
  intro x y;refine(h.edge [x,y]).trans ?_;constructor
  ·rintro⟨i,k,hi,hk,hg,e⟩;simp only[List.cons.injEq,and_true]at e;exact⟨i,k,hi,hk,hg,e⟩
  ·rintro⟨i,k,hi,hk,hg,rfl,rfl⟩;exact⟨i,k,hi,hk,hg,rfl⟩
 constructor
 ·rintro⟨x,y,rfl,hc⟩;obtain⟨i,k,hi,hk,hl,rfl,rfl⟩:=(FV hE x y).1 hc;exact⟨i,k,hi,hk,(h.leads i k hi hk).2 hl,rfl⟩
 ·rintro⟨i,k,hi,hk,hl,rfl⟩;exact⟨_,_,rfl,(FV hE _ _).2 ⟨i,k,hi,hk,(h.leads i k hi hk).1 hl,rfl,rfl⟩⟩
theorem CV.out(h:CV g p ps v D M)(x:B8):M (DT,[x])↔ ∃i,i<4/\(∃k,k<4/\g i k=true)/\x=Ad i:=by
 rw[NJ h.stable h.cls h.small h.four];constructor
 ·rintro⟨y,hy⟩;obtain⟨i,k,hi,hk,hg,e⟩:=(h.edge _).1 hy;simp only[List.cons.injEq,and_true]at e;exact⟨i,hi,⟨k,hk,hg⟩,e.1⟩
 ·rintro⟨i,hi,⟨k,hk,hg⟩,rfl⟩;exact⟨Ad k,(h.edge _).2 ⟨i,k,hi,hk,hg,rfl⟩⟩
theorem CV.nd(h:CV g p ps v D M)(x:B8):M (E6,[x])↔ ∃i,i<4/\x=Ad i:=by
 rw[OY h.stable h.cls h.small h.four];constructor
 ·rintro⟨i,hi,e⟩;simp only[List.cons.injEq,and_true]at e;exact⟨i,hi,e⟩
 ·rintro⟨i,hi,rfl⟩;exact⟨i,hi,rfl⟩
theorem CV.apart(h:CV g p ps v D M)(l:List B8):M (Cv,l)↔ ∃i k,i<4/\k<4/\p i k=false/\l=[Ad i,Ad k]:=by
 rw[LV h.stable h.cls h.small h.four];constructor
 ·rintro⟨x,y,rfl,h1,h2,h3⟩;obtain⟨i,hi,rfl⟩:=(h.nd x).1 h1;obtain⟨k,hk,rfl⟩:=(h.nd y).1 h2;refine⟨i,k,hi,hk,?_,rfl⟩;cases hp:p i k
  ·rfl
  ·exact absurd ((h.path _).2 ⟨i,k,hi,hk,hp,rfl⟩) h3
 ·rintro⟨i,k,hi,hk,hp,rfl⟩;refine⟨_,_,rfl,(h.nd _).2 ⟨i,hi,rfl⟩,(h.nd _).2 ⟨k,hk,rfl⟩,?_⟩;intro hM;obtain⟨i',k',hi',hk',hp',e⟩:=(h.path _).1 hM;simp only[List.cons.injEq,and_true]at e;rw[Ek hi hi' e.1,Ek hk hk' e.2,hp']at hp;simp at hp
theorem I8{i k:Nat}(h:CL g i k):∃m,g i m=true/\(m<4\/m=k):=by
 obtain⟨n,h⟩:=h
 induction n generalizing k with
 |zero=>exact⟨k,h,.inr rfl⟩
 |succ n ih=>obtain⟨m,hm,h,_⟩:=h;obtain⟨u,hu,h⟩:=ih h;exact⟨u,hu,.inl (by rcases h with h|h<;>omega)⟩
theorem CV.some(h:CV g p ps v D M)(x:B8):M (Gg,[x])↔ ∃i,i<4/\(∃k,k<4/\g i k=true)/\x=Ad i:=by
 rw[Mk h.stable h.cls h.small h.four];constructor
 ·rintro⟨y,hy⟩;obtain⟨i,k,hi,hk,hp,e⟩:=(h.path _).1 hy;simp only[List.cons.injEq,and_true]at e;obtain⟨m,hm,h4⟩:=I8 ((h.leads i k hi hk).1 hp);exact⟨i,hi,⟨m,by rcases h4 with h4|h4<;>omega,hm⟩,e.1⟩
 ·rintro⟨i,hi,⟨k,hk,hg⟩,rfl⟩;exact⟨Ad k,(h.path _).2 ⟨i,k,hi,hk,(h.leads i k hi hk).2 ⟨0,hg⟩,rfl⟩⟩
end
end
end Go.Proofs.YtpbfiffgcgnidaaGreat
