import Derived.Test.YtpbfiffgcgnidaaGreatDoorYal
import Derived.Test.YtpbfiffgcgnidaaGreatDoorY45
import Derived.Test.YtpbfiffgcgnidaaGreatDoorY44
namespace Go.Proofs.YtpbfiffgcgnidaaGreatDoor
set_option maxRecDepth 100000
set_option maxHeartbeats 4000000
set_option linter.unusedSimpArgs false
open Go.Proofs.Tryz
section
theorem cY{xs:List B8}{k x:B8}:x∈DT xs k↔x∈xs\/x=k:=by
 unfold DT BZ
 split
 ·rename_i h;have q:k∈xs:=List.contains_iff_mem.1 h;constructor
  ·exact .inl
  ·rintro(h|rfl)
   ·exact h
   ·exact q
 ·simp
theorem Um{l:List B8}:∀{xs:List B8} {x:B8},x∈GU xs l↔x∈xs\/x∈l:=by
 induction l with
 |nil=>intro xs x;simp[GU]
 |cons a l q=>intro xs x;show x∈GU (DT xs a) l↔_;rw[q,cY,Br,or_assoc]
theorem NL{v:Bool}{ats:List (B8×List B8)}{t:B8}:t∈Eo v ats↔Bo t=v/\∃a∈ats,t∈a.2:=by
 unfold Eo KS;simp only[C5,Ph,Co];constructor
 ·rintro⟨a,q,h1,h2⟩;exact⟨h2,a,q,h1⟩
 ·rintro⟨h2,a,q,h1⟩;exact⟨a,q,h1,h2⟩
theorem Gp{d:Bd}{t:B8}:t∈DV d↔Bo t=true/\∃a∈d.atoms,t∈a.2:=by unfold DV;rw[Um,NL];simp
theorem M5{ds:List Bd}{t:B8}:t∈CE ds↔Bo t=false/\∃d∈ds,∃a∈d.atoms,t∈a.2:=by
 unfold CE;rw[Um,C5];simp only[NL];constructor
 ·rintro(h|⟨d,hd,h1,h2⟩)
  ·simp at h
  ·exact⟨h1,d,hd,h2⟩
 ·rintro⟨h1,d,hd,h2⟩;exact .inr ⟨d,hd,h1,h2⟩
theorem FC{d:Bd}{a:B8×List B8}:a∈d.atoms↔a=(d.name,d.ts)\/∃l∈d.lits,a=(l.name,l.ts):=by
 unfold Bd.atoms;rw[Br,C4];constructor
 ·rintro(h|⟨l,q,h⟩)
  ·exact .inl h
  ·exact .inr ⟨l,q,h.symm⟩
 ·rintro(h|⟨l,q,h⟩)
  ·exact .inl h
  ·exact .inr ⟨l,q,h.symm⟩
def Up(d:Bd):Prop:=∀t,Bo t=true->(t∈d.ts\/∃l∈d.lits,l.neg=true/\t∈l.ts)->∃l∈d.lits,l.neg=false/\t∈l.ts
theorem Up.all{d:Bd}(h:Up d){t:B8}(ht:t∈DV d):∃l∈d.lits,l.neg=false/\t∈l.ts:=by
 obtain⟨z,a,y,q⟩:=Gp.1 ht;rcases FC.1 y with rfl|⟨l,j,rfl⟩
 ·exact h t z (.inl q)
 ·cases hn:l.neg
  ·exact⟨l,j,hn,q⟩
  ·exact h t z (.inr ⟨l,j,hn,q⟩)
theorem eX(s:B8->B8){vs:List B8}{v:B8}(h:v∈vs):IU (vs.zip (vs.map s)) v=some (s v):=by
 induction vs with
 |nil=>simp at h
 |cons u vs q=>
  rw[A6,List.zip_cons_cons,IU];by_cases e:u=v
  ·rw[Ai e,e]
  ·rw[Af e];exact q ((List.mem_cons.1 h).resolve_left (fun x=>e x.symm))
def Sm(K:List B8)(d:Bd):List BA:=(KY K (DV d).length).map fun xs=>d.put (mA ((DV d).zip xs))
def dZ(ds:List Bd):List BA:=ds.flatMap (Sm (CE ds))
theorem Zx{d:Bd}{s s':B8->B8}(h:∀v∈DV d,s v=s' v):d.put s=d.put s':=by
 unfold Bd.put Ct;congr 1;apply Ek;intro t ht;unfold IJ
 split
 ·rename_i q;exact h t (Gp.2 ⟨q,_,FC.2 (.inl rfl),ht⟩)
 ·rfl
theorem W2{K:List B8}{d:Bd}{s:B8->B8}(h:∀v∈DV d,s v∈K):d.put s∈Sm K d:=by
 refine List.mem_map.2 ⟨(DV d).map s,NJ.2 ⟨by simp,?_⟩,?_⟩
 ·intro x hx;obtain⟨v,q,rfl⟩:=List.mem_map.1 hx;exact h v q
 ·refine Zx ?_;intro v q;unfold mA;rw[eX s q];rfl
theorem QQ{ds:List Bd}{M:BA->Prop}(hS:FT ds M)(hs:∀d∈ds,Up d):∀b,M b->b∈dZ ds/\(∀t∈b.2,t∈CE ds)/\∃d∈ds,b.1=d.name/\b.2.length=d.ts.length:=by
 refine hS.least (fun b=>b∈dZ ds/\(∀t∈b.2,t∈CE ds)/\∃d∈ds,b.1=d.name/\b.2.length=d.ts.length) ?_;intro d hd s _ g;have j:∀v∈DV d,s v∈CE ds:=by intro v q;obtain⟨l,y,hn,k⟩:=(hs d hd).all q;refine(g l y hn).2.1 (s v) ?_;refine List.mem_map.2 ⟨v,k,?_⟩;unfold IJ;rw[Ai (Gp.1 q).1]
 refine⟨List.mem_flatMap.2 ⟨d,hd,W2 j⟩,?_,d,hd,rfl,by simp[Bd.put,Ct]⟩;intro t ht;obtain⟨u,z,rfl⟩:=List.mem_map.1 ht;unfold IJ
 split
 ·rename_i q;exact j u (Gp.2 ⟨q,_,FC.2 (.inl rfl),z⟩)
 ·rename_i q;exact M5.2 ⟨by simpa using q,d,hd,_,FC.2 (.inl rfl),z⟩
def O8:Prop:=∀(n:Nat) (ts:List B8),CR n ts=true->n=0/\∀t∈ts,Bo t=false
theorem Qv(hF:O8){d:Bd}(h:CR d.lits.length d.ts=true):DV d=[]:=by
 obtain⟨h1,h2⟩:=hF _ _ h;rw[List.eq_nil_iff_forall_not_mem];intro t ht;obtain⟨j,a,z,y⟩:=Gp.1 ht;rcases FC.1 z with rfl|⟨l,q,rfl⟩
 ·rw[h2 t y]at j;simp at j
 ·rw[De h1]at q;simp at q
theorem S0(hF:O8)(k n:Nat)(d:Bd)(hn:n<=(DV d).length):k ^ n<=JE (max 1 k) d+1:=by
 unfold JE
 split
 ·rename_i h;rw[Qv hF h]at hn;have:n=0:=by simpa using hn
  subst this;simp
 ·have h1:k ^ n<=(max 1 k) ^ n:=Nat.pow_le_pow_left (by omega) n;have h2:(max 1 k) ^ n<=(max 1 k) ^ (DV d).length:=Nat.pow_le_pow_right (by omega) hn;omega
theorem Y9(hF:O8)(ds:List Bd):(dZ ds).length<=DH (max 1 (CE ds).length) ds+ds.length:=by
 have q:∀(K:List B8) (l:List Bd),(l.flatMap (Sm K)).length<=DH (max 1 K.length) l+l.length:=by
  intro K l
  induction l with
  |nil=>simp
  |cons d l ih=>
   have e:DH (max 1 K.length) (d::l)=JE (max 1 K.length) d+DH (max 1 K.length) l:=by simp[DH]
   have h1:(Sm K d).length<=JE (max 1 K.length) d+1:=by unfold Sm;rw[AK,NK];exact S0 hF _ _ d (Ab _)
   rw[Cg,Am,e,List.length_cons];omega
 exact q _ ds
theorem Y8(c:Nat){ds:List Bd}{d:Bd}(h:d∈ds):JE c d<=DH c ds:=by
 induction ds with
 |nil=>simp at h
 |cons x r q=>
  have e:DH c (x::r)=JE c x+DH c r:=by simp[DH]
  rw[e];rcases List.mem_cons.1 h with rfl|h
  ·omega
  ·have:=q h;omega
theorem Ji{a:RA}(q:a.fit)(s:B8->B8):KL s a=a.lit.put s:=by unfold KL BQ.put Ct RA.lit;simp only[C6];congr 1;apply Ek;intro t ht;simp only[Function.comp,UJ,IJ,q t ht]
theorem Sx{c:RC}(q:c.head.fit)(s:B8->B8):KL s c.head=c.d.put s:=by rw[Ji q];rfl
theorem XX{ts:List RT}:∀{ks:List B8} {x:B8},x∈Qj ks ts->x∈ks\/∃t∈ts,t.var=true/\t.s=x:=by
 induction ts with
 |nil=>intro ks x h;exact .inl h
 |cons t ts z=>
  intro ks x h;rcases z h with h|⟨u,j,h⟩
  ·simp only[]at h
   split at h
   ·rename_i q;rcases List.mem_append.1 h with h|h
    ·exact .inl h
    ·simp at h;exact .inr ⟨t,by simp,q.1,h.symm⟩
   ·exact .inl h
  ·exact .inr ⟨u,by simp[j],h⟩
theorem Tt{ts:List RT}:∀{ks:List B8},ks.Nodup->(Qj ks ts).Nodup:=by
 induction ts with
 |nil=>intro ks h;exact h
 |cons t ts z=>
  intro ks h;refine z ?_;simp only[]
  split
  ·rename_i j;rw[L7];refine⟨h,by simp,?_⟩;intro a q b hb e;simp at hb;subst e;subst hb;exact j.2 q
  ·exact h
theorem Z4{rest:List RA}:∀{ks:List B8},ks.Nodup->(KT ks rest).Nodup/\∀x∈KT ks rest,x∈ks\/∃a∈rest,∃t∈a.ts,t.var=true/\t.s=x:=by
 induction rest with
 |nil=>intro ks h;exact⟨h,fun x hx=>.inl hx⟩
 |cons a r q=>
  intro ks h;rw[KT]
  split
  ·obtain⟨h1,h2⟩:=q h;refine⟨h1,fun x hx=>?_⟩;rcases h2 x hx with h|⟨b,hb,h⟩
   ·exact .inl h
   ·exact .inr ⟨b,by simp[hb],h⟩
  ·obtain⟨h1,h2⟩:=q (Tt h (ts:=a.ts));refine⟨h1,fun x hx=>?_⟩;rcases h2 x hx with h|⟨b,hb,h⟩
   ·rcases XX h with h|⟨t,ht,h⟩
    ·exact .inl h
    ·exact .inr ⟨a,by simp,t,ht,h⟩
   ·exact .inr ⟨b,by simp[hb],h⟩
theorem Z3{c:RC}(j:c.fit):(KT [] c.body).length<=(DV c.d).length:=by
 obtain⟨h1,h2⟩:=Z4 (rest:=c.body) (ks:=[]) Cw;refine h1.length_le_of_subset ?_;intro x hx;rcases h2 x hx with h|⟨a,q,t,ht,z,rfl⟩
 ·simp at h
 ·exact Gp.2 ⟨by rw[<-j.2 a q t ht];exact z,(a.lit.name,a.lit.ts),FC.2 (.inr ⟨a.lit,List.mem_map.2 ⟨a,q,rfl⟩,rfl⟩),List.mem_map.2 ⟨t,ht,rfl⟩⟩
theorem Yj(hF:O8){cs:List RC}{c:RC}(hc:c∈cs)(j:c.fit){H:List BA}(hn:H.Nodup)(q:∀b∈H,∀x∈b.2,x∈CE (cs.map RC.d)):(FP H c c.body []).length<=DH (max 1 (CE (cs.map RC.d)).length) (cs.map RC.d)+1:=by have h1:=bP hn q c c.body;have h2:=S0 hF (CE (cs.map RC.d)).length _ c.d (Z3 j);have h3:=Y8 (max 1 (CE (cs.map RC.d)).length) (Cl (f:=RC.d) hc);omega
section
variable {cs:List RC} {M:BA->Prop} {lay:B8->Nat}
theorem kW(hS:FT (cs.map RC.d) M)(t:MJ lay (cs.map RC.d))(y:∀c∈cs,c.fit){k:Nat}{H:List BA}(g:∀b∈H,M b)(hb:∀b,M b->lay b.1<k->b∈H){c:RC}(hc:c∈cs)(hk:lay c.head.name=k){b:BA}(r:b∈FP H c c.body []):M b/\b.1=c.head.name:=by
 obtain⟨s,h1,h2,rfl⟩:=VF r;refine⟨?_,rfl⟩;rw[Sx (y c hc).1];refine hS.closed c.d (Cl hc) s ?_;intro l j;obtain⟨a,z,rfl⟩:=List.mem_map.1 j;have q:=(y c hc).2 a z;refine⟨fun hn=>?_,fun hn u=>?_⟩
 ·rw[<-Ji q];exact g _ (h1 a z hn)
 ·refine h2 a z hn ?_;rw[Ji q];refine hb _ u ?_;have:=t c.d (Cl hc) a.lit j;rw[Ai hn]at this;have v:c.d.name=c.head.name:=rfl;rw[v]at this;show lay a.lit.name<k;omega
theorem Z0(hS:FT (cs.map RC.d) M)(m:MJ lay (cs.map RC.d))(y:∀c∈cs,c.fit)(hs:∀c∈cs,Uq c){k:Nat}{H:List BA}(r:∀b∈H,M b)(hb:∀b,M b->lay b.1<k->b∈H)(hc:∀c∈cs,lay c.head.name=k->∀b∈FP H c c.body [],b∈H):∀b,M b->lay b.1<k+1->b∈H:=by
 refine hS.least (fun b=>lay b.1<k+1->b∈H) ?_;intro d hd s g n p;obtain⟨c,q,rfl⟩:=List.mem_map.1 hd;have q0:lay c.head.name<k+1:=p;by_cases u:lay c.head.name<k
 ·exact hb _ (hS.closed _ hd s g) u
 ·have v:lay c.head.name=k:=by omega
  rw[<-Sx (y c q).1];refine hc c q v _ (PG (hs c q) ?_ ?_)
  ·intro a z hn;have j:a.lit∈c.d.lits:=List.mem_map.2 ⟨a,z,rfl⟩;rw[Ji ((y c q).2 a z)];refine n a.lit j hn ?_;have:=m c.d hd a.lit j;have t:c.d.name=c.head.name:=rfl;rw[t]at this;show lay a.lit.name<k+1;omega
  ·intro a z hn hin;have j:a.lit∈c.d.lits:=List.mem_map.2 ⟨a,z,rfl⟩;rw[Ji ((y c q).2 a z)]at hin;exact(g a.lit j).2 hn (r _ hin)
end
theorem Rw{a:RA}(j:a.fit)(b:BA):(Gy [] a b).isSome=true↔ ∃s,b=(a.name,Ct s (a.ts.map RT.s)):=by
 constructor
 ·intro h;obtain⟨g,q⟩:=Option.isSome_iff_exists.1 h;refine⟨mA g,?_⟩;rw[<-(Jv q).1,bC,Ji j];rfl
 ·rintro⟨s,rfl⟩;have:=KU (g:=[]) (s:=s) (by intro p z;simp at z) a;rw[Ji j]at this;obtain⟨g,q,_⟩:=this;have e:a.lit.put s=(a.name,Ct s (a.ts.map RT.s)):=rfl;rw[<-e,q];rfl
def GR(x:B8):List B8->List B8
 |[]=>[x]
 |y::r=>if y<x then y::GR x r else x::y::r
theorem Qn(x:B8)(l:List B8):(GR x l).Perm (x::l):=by
 induction l with
 |nil=>exact lV _
 |cons y r q=>
  rw[GR]
  split
  ·exact(List.Perm.cons y q).trans (List.Perm.swap x y r)
  ·exact lV _
theorem Ty(x:B8)(l:List B8)(h:l.Pairwise (· <= ·)):(GR x l).Pairwise (· <= ·):=by
 induction l with
 |nil=>simp[GR]
 |cons y r v=>
  rw[Li]at h;rw[GR]
  split
  ·rename_i q;rw[Li];refine⟨?_,v h.2⟩;intro z j;rcases List.mem_cons.1 ((Qn x r).mem_iff.1 j) with rfl|j
   ·exact List.le_of_lt q
   ·exact h.1 z j
  ·rename_i q;rw[Li];refine⟨?_,List.pairwise_cons.2 h⟩;have k:x<=y:=List.not_lt.1 q;intro z j;rcases List.mem_cons.1 j with rfl|j
   ·exact k
   ·exact List.le_trans k (h.1 z j)
theorem Xg:∀{l l':List B8},l.Perm l'->l.Pairwise (· <= ·)->l'.Pairwise (· <= ·)->l=l':=by
 intro l
 induction l with
 |nil=>intro l' q _ _;exact(List.nil_perm.1 q).symm
 |cons a r y=>
  intro l' q h1 h2
  cases l' with
  |nil=>exact absurd q.length_eq (by simp)
  |cons b r'=>
   rw[Li]at h1 h2
   have z:a=b:=by
    have j:a∈b::r':=q.mem_iff.1 (by simp);have hb:b∈a::r:=q.mem_iff.2 (by simp);rcases List.mem_cons.1 j with e|j
    ·exact e
    ·rcases List.mem_cons.1 hb with e|hb
     ·exact e.symm
     ·exact List.le_antisymm (h1.1 b hb) (h2.1 a j)
   subst z;rw[y q.cons_inv h1.2 h2.2]
def EJ(l:List B8):List B8:=l.foldl (fun o x=>GR x o) []
theorem Qo(l:List B8):(EJ l).Perm l/\(EJ l).Pairwise (· <= ·):=by
 have q:∀(l o:List B8),o.Pairwise (· <= ·)->(l.foldl (fun o x=>GR x o) o).Perm (l++o)/\(l.foldl (fun o x=>GR x o) o).Pairwise (· <= ·):=by
  intro l
  induction l with
  |nil=>intro o h;exact⟨lV _,h⟩
  |cons x l j=>intro o h;obtain⟨h1,h2⟩:=j (GR x o) (Ty x o h);refine⟨h1.trans ?_,h2⟩;rw[List.cons_append];exact((Qn x o).append_left l).trans List.perm_middle
 have:=q l [] List.Pairwise.nil;simpa[EJ]using this
theorem UF{A:Type}(f g:A->B8){q H:List A}(p:A->Bool)(d:q.Nodup)(v:H.Nodup)(u:∀b,b∈q↔b∈H/\p b=true)(k:∀b∈q,f b=g b):(q.map f).mergeSort (fun x y=>decide (x<=y))=EJ ((H.filter p).map g):=by
 have t:q.Perm (H.filter p):=by refine(List.perm_ext_iff_of_nodup d (v.filter _)).2 ?_;intro b;rw[u,Ph]
 have e:q.map f=q.map g:=Ek k;obtain⟨h1,h2⟩:=Qo ((H.filter p).map g);refine Xg ?_ ?_ h2
 ·exact((List.mergeSort_perm _ _).trans (by rw[e];exact t.map g)).trans h1.symm
 ·have:=List.pairwise_mergeSort (le:=fun x y:B8=>decide (x<=y)) (by
   intro a b c j z
   exact Bq (List.le_trans (BV j) (BV z))) (by
   intro a b;rcases List.le_total a b with h|h
   ·simp[h]
   ·simp[h]) (q.map f)
  exact this.imp (fun h=>BV h)
end
section
attribute [local go_sem] AE As
open Go.RowKit Go.WideMaps Go.Maps
def JF(v:Bool)(xs:List B8)(ts:List RT):List B8:=ts.foldl (fun xs t=>if(t.var==v)=true then DT xs t.s else xs) xs
def GM(v:Bool)(xs:List B8)(l:List RA):List B8:=l.foldl (fun xs a=>JF v xs a.ts) xs
theorem UG(v:Bool)(ts:List RT)(q:∀t∈ts,t.var=Bo t.s):∀xs,JF v xs ts=GU xs (KS v (ts.map RT.s)):=by
 induction ts with
 |nil=>intro xs;rfl
 |cons t r j=>
  intro xs;have h1:=q t (by simp);have h2:=j (fun x hx=>q x (by simp[hx]));show JF v (if(t.var==v)=true then DT xs t.s else xs) r=_;rw[h2,h1];unfold KS;rw[A6,G2]
  split
  ·rfl
  ·rfl
theorem Un(xs a b:List B8):GU xs (a++b)=GU (GU xs a) b:=by unfold GU;rw[Dd]
theorem MQ(v:Bool)(l:List RA)(q:∀a∈l,a.fit):∀xs,GM v xs l=GU xs (Eo v (l.map fun a=>(a.name,a.ts.map RT.s))):=by
 induction l with
 |nil=>intro xs;rfl
 |cons a r j=>intro xs;show GM v (JF v xs a.ts) r=_;rw[j (fun x hx=>q x (by simp[hx])),UG v a.ts (q a (by simp))];unfold Eo;rw[A6,Cg,Un]
theorem T9(c:RC):c.d.atoms=(c.head::c.body).map fun a=>(a.name,a.ts.map RT.s):=by unfold Bd.atoms RC.d;rw[A6,C6];rfl
theorem W8{c:RC}(j:c.fit):GM true [] (c.head::c.body)=DV c.d:=by
 rw[MQ true _ (by
  intro a q;rcases List.mem_cons.1 q with rfl|q
  ·exact j.1
  ·exact j.2 a q)]
 unfold DV;rw[T9]
theorem Su{cs:List RC}(j:∀c∈cs,c.fit):GM false [] (A2 cs)=CE (cs.map RC.d):=by
 rw[MQ false _ (by
  intro a q;unfold A2 at q;obtain⟨c,hc,q⟩:=List.mem_flatMap.1 q;rcases List.mem_cons.1 q with rfl|q
  ·exact(j c hc).1
  ·exact(j c hc).2 a q)]
 unfold CE A2 Eo;rw[Np,List.flatMap_assoc,JC];congr 2
 funext c
 rw[T9]
theorem Zc(w:World)(own base:Nat)(ao:Option Addr)(cap:Nat)(l:List RA)(v:Bool)(hG:BB w own base (.slice ao l.length cap) l)(hn:l.length<=1000)(h3:∀a∈l,a.ts.length<=3):
 Calls prog 113 #[.slice ao l.length cap,.bool v] w fun e w'=>∃u,e=.returned u/\w'.ownsRow w.heap.size 9 1 u (GM v [] l).length ((GM v [] l).map fun x=>.string (bs x))/\(GM v [] l).length<=3*l.length/\Below w.heap.size w w':=by
 obtain⟨i1,M,X,S,E⟩:=Bc Hk;obtain⟨z,I⟩:∃z,Hid (GM v [] l=z):=⟨_,rfl⟩;rw[I.out];go_enter func113,ntmps113;go_wp2_with fail
 go_loopw [5,6] (fun ov A wr=>∃(i:Nat) (xs:List B8),i<=l.length/\A=.int .i64 i/\Hid (GM v xs (l.drop i)=z)/\xs.length<=3*i/\wr.ownsRow w.heap.size 9 1 ov xs.length (xs.map fun x=>.string (bs x))/\Below w.heap.size w wr) (fun _ A _=>l.length-(intOf A).toNat)
 case atStart=>exact⟨0,[],by omega,rfl,I,by simp,Ak _ _ _ _,Ag _ _⟩
 case round=>
  obtain⟨i,xs,hi,rfl,U,q5,d,q⟩:=hrel;obtain⟨so,scap,rfl⟩:=Au d;by_cases b:i<l.length
  ·obtain⟨g,tv,rfl,W,b0,b1,b2,b3,b4,H⟩:=Gw hG rfl i b;have q3:=h3 l[i] (Aj b);have HD:=Ao (show GM v xs (l.drop i)=GM v (JF v xs l[i].ts) (l.drop (i+1)) by rw[Aa b];rfl);generalize l[i]=a at*;obtain⟨tq,q2,rfl⟩:=Au H;have G:=Ao b1;rw[<-q.cell (p:=⟨g,i*5+1,none⟩) W]at b1;have Q:Hid (GM v (JF v xs (a.ts.drop 0)) (l.drop (i+1))=z):=by show _=_;rw[<-U.out,HD.out,B4]
   clear b0 b2 b3 b4 HD U;go_wp2_with fail
   go_loopw [5,7] (fun ov O wr=>∃(k:Nat) (ys:List B8),k<=a.ts.length/\O=.int .i64 k/\Hid (GM v (JF v ys (a.ts.drop k)) (l.drop (i+1))=z)/\ys.length<=3*i+k/\wr.ownsRow w.heap.size 9 1 ov ys.length (ys.map fun x=>.string (bs x))/\Below w.heap.size w wr) (fun _ O _=>a.ts.length-(intOf O).toNat)
   case atStart=>exact⟨0,xs,by omega,rfl,Q,by omega,d,q⟩
   case round=>
    clear d q b1 Q;obtain⟨k,ys,hk,rfl,c,q6,d,q⟩:=hrel;obtain⟨yo,V,rfl⟩:=Au d;have b1:=G.out;rw[<-q.cell (p:=⟨g,i*5+1,none⟩) W]at b1;have q4:g<wr.heap.size:=by have:=q.size;omega
    by_cases y:k<a.ts.length
    ·obtain⟨g2,rfl,n,L,d1,d2⟩:=FM H k y;rw[<-q.cell (p:=⟨g2,k*3,none⟩) n]at L;rw[<-q.cell (p:=⟨g2,k*3+1,none⟩) n]at d1;rw[<-q.cell (p:=⟨g2,k*3+2,none⟩) n]at d2;have q1:g2<wr.heap.size:=by have:=q.size;omega
     have f:=Ao (show JF v ys (a.ts.drop k)=JF v (if(a.ts[k].var==v)=true then DT ys a.ts[k].s else ys) (a.ts.drop (k+1)) by rw[Aa y];rfl);generalize a.ts[k]=t at*;unfold RT.w at L;have P:=q.size;have r:=d.alloc (.cells #[.string (bs t.s),.bool t.var,.int .i64 (t.pl:Nat)] 130);have j:=Ao (Om (wr.alloc (.cells #[.string (bs t.s),.bool t.var,.int .i64 (t.pl:Nat)] 130)) w.heap.size yo V ys r (by omega) t.s);have m:=q.alloc P (.cells #[.string (bs t.s),.bool t.var,.int .i64 (t.pl:Nat)] 130);cases hv:(t.var==v)
     ·have o:=Ao (show GM v (JF v ys (a.ts.drop (k+1))) (l.drop (i+1))=z by rw[<-c.out,f.out,hv];rfl);clear f c;go_wp2_with (go_at_call 34;refine(j.out).mono ?_;rintro e w2 ⟨J,K⟩;subst w2;subst J)
      all_goals exact⟨⟨k+1,ys,y,by go_num,o,by omega,r,m⟩,by simp[intOf];omega⟩
     ·cases hh:BZ ys t.s
      ·have o:=Ao (show GM v (JF v (ys++[t.s]) (a.ts.drop (k+1))) (l.drop (i+1))=z by
           rw[<-c.out,f.out,hv,Ai rfl];unfold DT;rw[hh]
           rfl)
       rw[hh]at j;clear f c hh;go_wp2_with (first|(go_at_call 34;refine(j.out).mono ?_;rintro e w2 ⟨J,K⟩;subst w2;subst J)|(at_builtin;refine AF _ rfl _ _ 31 rfl w.heap.size 9 i1 _ 1 16 underlying31 M X S E rfl (by decide) _ ys.length _ rfl (by exact r.alloc _) ⟨wr.heap.size+1,0,none⟩ 1 [.string (bs t.s)] rfl rfl (by exact Gu _ _ _ _) (by intro u h;simp at h;subst h;rfl) (by unfold maxLen;omega) (by omega) (by simp;omega) ?_;intro g3 q0 w3 N C));have R:Below w.heap.size w w3:=(m.alloc (by simp;omega) _).grown C (by simp;omega) (A9 d);exact⟨⟨k+1,ys++[t.s],y,by go_num,o,by simp;omega,by rw[Am,A8];exact N,R⟩,by simp[intOf];omega⟩
      ·have o:=Ao (show GM v (JF v ys (a.ts.drop (k+1))) (l.drop (i+1))=z by
           rw[<-c.out,f.out,hv,Ai rfl];unfold DT
           rw[hh,Ai rfl])
       rw[hh]at j;clear f c hh;go_wp2_with (go_at_call 34;refine(j.out).mono ?_;rintro e w2 ⟨J,K⟩;subst w2;subst J);exact⟨⟨k+1,ys,y,by go_num,o,by omega,r,m⟩,by simp[intOf];omega⟩
    ·have Y:k=a.ts.length:=by omega
     have B:=Ao (show GM v ys (l.drop (i+1))=z by rw[<-c.out,Y,AR];rfl);clear Y c;go_wp2_with fail;exact⟨⟨i+1,ys,b,by go_num,B,by omega,d,q⟩,by simp[intOf];omega⟩
  ·have Z:i=l.length:=by omega
   have B:=Ao (show xs=z by rw[<-U.out,Z,AR];rfl);clear Z U;go_wp2_with fail
   go_ret
   rw[<-B.out];exact⟨_,rfl,d,by omega,q⟩
theorem YB(w:World)(base g o cp:Nat)(c:RC)(tv:Value)(bo:Option Addr)(bcap:Nat)(Z:g<w.heap.size)(b0:w.cell? ⟨g,o,none⟩=some (.string c.head.w))(b1:w.cell? ⟨g,o+1,none⟩=some tv)(b2:w.cell? ⟨g,o+2,none⟩=some (.int .i64 (c.head.pl:Nat)))(b3:w.cell? ⟨g,o+3,none⟩=some (.int .i64 (c.head.af:Nat)))(b4:w.cell? ⟨g,o+4,none⟩=some (.bool c.head.neg))(b5:w.cell? ⟨g,o+5,none⟩=some (.slice bo c.body.length bcap))(hT:w.ownsRow base 130 3 tv c.head.ts.length (c.head.ts.flatMap RT.cells))(hR:EN w base (.slice bo c.body.length bcap) c.body)(j3:c.body.length<=4):
 Calls prog 30 #[.slice (some ⟨g,o,none⟩) 1 cp] w fun e w'=>∃v,e=.returned v/\BB w' w.heap.size base v (c.head::c.body)/\Below w.heap.size w w':=by
 obtain⟨i1,Y,V,U,G⟩:=Bc I5;go_enter func30,ntmps30;go_wp2
 go_loopw [3,4] (fun ov iv wr=>∃(i:Nat),i<=1/\iv=.int .i64 i/\Hid (i=0->ov=.slice none 0 0)/\BB wr w.heap.size base ov (if i=0 then [] else c.head::c.body)/\Below w.heap.size w wr) (fun _ iv _=>1-(intOf iv).toNat)
 case atStart=>exact⟨0,by omega,rfl,Ao fun _=>rfl,⟨[],Ak _ _ _ _,rfl,by simp⟩,Ag _ _⟩
 case round=>
  obtain⟨i,hi,rfl,P,h,t⟩:=hrel;by_cases j4:i<1
  ·obtain rfl:i=0:=by omega
   rw[Ai rfl]at h;obtain⟨rows,K,I,hr⟩:=h;have q7:rows=[]:=De I;subst q7;have q6:=P.out rfl;subst q6;clear P;have M:Hid ((if(0+1:Nat)=0 then [] else c.head::c.body)=[]++[c.head]++c.body):=rfl;rw[<-t.cell (p:=⟨g,o,none⟩) Z]at b0;rw[<-t.cell (p:=⟨g,o+1,none⟩) Z]at b1;rw[<-t.cell (p:=⟨g,o+2,none⟩) Z]at b2;rw[<-t.cell (p:=⟨g,o+3,none⟩) Z]at b3;rw[<-t.cell (p:=⟨g,o+4,none⟩) Z]at b4;have j5:=t.size;have N:BY w base c.head [.string c.head.w,tv,.int .i64 (c.head.pl:Nat),.int .i64 (c.head.af:Nat),.bool c.head.neg]:=⟨tv,rfl,hT⟩;have l:=N.one;have x:=Ao (N.below (t.mono (Ab _)));have B:=Ao (hR.below (t.mono (Ab _)));have E:=A9 K;have j2:([]++[c.head]++c.body).length=0+1+c.body.length:=by simp;omega
   rcases(show(bo=none/\c.body=[]/\bcap=0)\/∃n,bo=some ⟨n,0,none⟩ by
    obtain⟨q,d,_,_⟩:=hR;rcases d.2 with⟨h1,h2⟩|⟨n,_,_,h1,_⟩
    ·simp only[Bx]at h1;exact .inl ⟨h1.1,De h2,h1.2.2⟩
    ·simp only[Bx]at h1
     exact .inr ⟨n,h1.1⟩) with⟨rfl,X,rfl⟩|⟨n,rfl⟩
   ·rw[X,List.length_nil]at b5;clear B hR;go_wp2_with (at_builtin;refine AF _ rfl _ _ 64 rfl w.heap.size 69 i1 _ 5 64 underlying64 Y V U G rfl (by decide) (.slice none 0 0) 0 [] rfl (by exact K.alloc _) ⟨wr.heap.size,0,none⟩ 1 [.string c.head.w,tv,.int .i64 (c.head.pl:Nat),.int .i64 (c.head.af:Nat),.bool c.head.neg] rfl rfl (AS _ _ _) l (by unfold maxLen;omega) (by omega) (by simp;omega) ?_;intro g2 s w2 y k;have z:Below w.heap.size w w2:=(t.alloc (by omega) _).grown k (by simp;omega) E;have e5:=(z.cell (p:=⟨g,o+5,none⟩) Z).trans b5;have j0:=(Gg y).1;have R:=Ao (BB.more (b:=[]) (b2:=[c.head]) (rows2:=[[.string c.head.w,tv,.int .i64 (c.head.pl:Nat),.int .i64 (c.head.af:Nat),.bool c.head.neg]]) I (fun i a cs h1 h2=>(hr i a cs h1 h2).below (Ac wr _)) rfl (fun i a cs h1 h2=>by cases i with|zero=>(simp at h1 h2;subst h1 h2;exact x.out.below (Ac wr _))|succ i=>simp at h1) (K.alloc _) (by simpa using y) k);have H:=z.size;have C:=Ao (IA (b:=[]) (b2:=[c.head]) (rows2:=[[.string c.head.w,tv,.int .i64 (c.head.pl:Nat),.int .i64 (c.head.af:Nat),.bool c.head.neg]]) I (fun i a cs h1 h2=>(hr i a cs h1 h2).below (Ac wr _)) (fun i a cs h1 h2=>by cases i with|zero=>(simp at h1 h2;subst h1 h2;exact x.out.below (Ac wr _))|succ i=>simp at h1) (K.alloc _) k));have L:(if(0+1:Nat)=0 then [] else c.head::c.body)=[]++[c.head]:=by rw[M.out,X];rfl
    exact⟨⟨0+1,by omega,by go_num,Ao (fun e=>by omega),by rw[L];exact R.out,z⟩,by simp[intOf]⟩
   ·obtain⟨q,d,f,J⟩:=hR;have S:q.flatten.length=c.body.length*5:=d.1;have A:n<w.heap.size:=(d.lt n rfl).2;have Q:∀u∈q.flatten,u.oneCell'=true:=by intro u hu;rw[dS]at hu;obtain⟨r,q8,q9⟩:=hu;obtain⟨j,hj,rfl⟩:=B3 q8;exact(J j c.body[j] q[j] (by simp) (by simp)).one u q9
    have q1:Hid (∀W:World,Below w.heap.size w W->∀j u,q.flatten[j]? =some u->W.cell? ((⟨n,0,none⟩:Addr).add j)=some u):=by intro W hW j u hj;have m:=d.cells (g:=n) rfl j u hj;rw[Jg]at m⊢;rw[hW.cell (p:=⟨n,0+j,none⟩) A];exact m
    have q0:Hid (∀W:World,Below w.heap.size w W->∀(i:Nat) (a:RA) (cs:List Value),c.body[i]? =some a->q[i]? =some cs->BY W base a cs):=fun W hW i a cs h1 h2=>(J i a cs h1 h2).below hW;have q2:=Ao f;clear B d J f;go_wp2_with (first|(at_builtin;have _t:=y;(refine Hw _ rfl _ _ 64 rfl w.heap.size 69 i1 _ 5 64 underlying64 Y V U G rfl (by decide) _ (0+1) _ rfl y (by omega) ⟨n,0,none⟩ c.body.length bcap q.flatten rfl S (q1.out w2 z) Q (by unfold maxLen;omega) (by omega) (by omega) ?_);intro g3 j1 w3 q5 O)|(at_builtin;refine AF _ rfl _ _ 64 rfl w.heap.size 69 i1 _ 5 64 underlying64 Y V U G rfl (by decide) (.slice none 0 0) 0 [] rfl (by exact K.alloc _) ⟨wr.heap.size,0,none⟩ 1 [.string c.head.w,tv,.int .i64 (c.head.pl:Nat),.int .i64 (c.head.af:Nat),.bool c.head.neg] rfl rfl (AS _ _ _) l (by unfold maxLen;omega) (by omega) (by simp;omega) ?_;intro g2 s w2 y k;have z:Below w.heap.size w w2:=(t.alloc (by omega) _).grown k (by simp;omega) E;have e5:=(z.cell (p:=⟨g,o+5,none⟩) Z).trans b5;have j0:=(Gg y).1;have R:=Ao (BB.more (b:=[]) (b2:=[c.head]) (rows2:=[[.string c.head.w,tv,.int .i64 (c.head.pl:Nat),.int .i64 (c.head.af:Nat),.bool c.head.neg]]) I (fun i a cs h1 h2=>(hr i a cs h1 h2).below (Ac wr _)) rfl (fun i a cs h1 h2=>by cases i with|zero=>(simp at h1 h2;subst h1 h2;exact x.out.below (Ac wr _))|succ i=>simp at h1) (K.alloc _) (by simpa using y) k);have H:=z.size;have C:=Ao (IA (b:=[]) (b2:=[c.head]) (rows2:=[[.string c.head.w,tv,.int .i64 (c.head.pl:Nat),.int .i64 (c.head.af:Nat),.bool c.head.neg]]) I (fun i a cs h1 h2=>(hr i a cs h1 h2).below (Ac wr _)) (fun i a cs h1 h2=>by cases i with|zero=>(simp at h1 h2;subst h1 h2;exact x.out.below (Ac wr _))|succ i=>simp at h1) (K.alloc _) k)));have q3:Below w.heap.size w w3:=z.grown O (by omega) (A9 y);have q4:=BB.more (w:=w2) (v:=.slice (some ⟨g2,0,none⟩) (0+1) s) (b:=[]++[c.head]) (b2:=c.body) (rows:=[]++[[.string c.head.w,tv,.int .i64 (c.head.pl:Nat),.int .i64 (c.head.af:Nat),.bool c.head.neg]]) (rows2:=q) (by simp) C.out q2.out (q0.out w2 z) (by simpa using y) (by simpa using q5) (by exact O);exact⟨⟨0+1,by omega,by go_num,Ao (fun e=>by omega),by rw[M.out];exact q4,q3⟩,by simp[intOf]⟩
  ·obtain rfl:i=1:=by omega
   rw[Af (by decide)]at h;go_wp2
   go_ret
   exact⟨_,rfl,h,t⟩
end
end Go.Proofs.YtpbfiffgcgnidaaGreatDoor
