import Derived.Test.YtpbfiffgcgnidaaGreatDoorYal
import Derived.Test.YtpbfiffgcgnidaaGreatDoorY9
namespace Go.Proofs.YtpbfiffgcgnidaaGreatDoor
set_option maxRecDepth 100000
set_option maxHeartbeats 4000000
set_option linter.unusedSimpArgs false
open Go.Proofs.Tryz
section
def RA.fit(a:RA):Prop:=∀t∈a.ts,t.var=Bo t.s
def RC.fit(c:RC):Prop:=c.head.fit/\∀a∈c.body,a.fit
theorem YJ(n f:Nat)(acc:List RT)(l:B8)(ts:List RT)(r:B8)(h:Ij n f acc l=some (ts,r))(j:∀t∈acc,t.var=Bo t.s):∀t∈ts,t.var=Bo t.s:=by
 induction f generalizing acc l with
 |zero=>simp[Ij]at h
 |succ f z=>
  have q:∀t∈acc++[⟨BL l,Bo (BL l),n-(AD l).length⟩],t.var=Bo t.s:=by
   intro t ht;rw[Bi,A7]at ht;rcases ht with h|rfl
   ·exact j t h
   ·rfl
  rw[Ij]at h
  split at h
  ·simp at h
  ·split at h
   ·split at h
    ·simp at h;rw[<-h.1];exact q
    ·simp at h
   ·split at h
    ·split at h
     ·simp at h;rw[<-h.1];exact q
     ·simp at h
    ·exact z _ _ h q
theorem MF(n:Nat)(neg:Bool)(bang:Nat)(l:B8)(a:RA)(r:B8)(h:Fh n neg bang l=some (a,r)):a.fit:=by
 unfold Fh at h
 split at h
 ·simp at h
 ·split at h
  ·simp at h;rw[<-h.1];intro t ht;simp at ht
  ·rw[CC]at h;obtain⟨⟨ts,r'⟩,h1,h2⟩:=h;simp at h2;rw[<-h2.1];exact YJ _ _ _ _ _ _ h1 (by simp)
theorem ZW(n:Nat)(l:B8)(a:RA)(r:B8)(h:Ni n l=some (a,r)):a.fit:=by
 unfold Ni at h
 split at h<;>exact MF _ _ _ _ _ _ h
theorem XQ(n f:Nat)(acc:List RA)(l:B8)(b:List RA)(r:B8)(h:JI n f acc l=some (b,r))(j:∀a∈acc,a.fit):∀a∈b,a.fit:=by
 induction f generalizing acc l with
 |zero=>simp[JI]at h
 |succ f z=>
  rw[JI,BK]at h;obtain⟨⟨a,r'⟩,h1,h2⟩:=h
  have q:∀x∈acc++[a],x.fit:=by
   intro x hx;rw[Bi,A7]at hx;rcases hx with h|rfl
   ·exact j x h
   ·exact ZW _ _ _ _ h1
  simp only[]at h2
  split at h2
  ·simp at h2;rw[<-h2.1];exact q
  ·split at h2
   ·simp at h2;rw[<-h2.1];exact q
   ·exact z _ _ h2 q
theorem T4(n:Nat)(l:B8)(c:RC)(r:B8)(h:GK n l=some (c,r)):c.fit:=by
 unfold GK at h;rw[BK]at h;obtain⟨⟨a,r'⟩,h1,h2⟩:=h;have j:=MF _ _ _ _ _ _ h1;simp only[]at h2
 split at h2
 ·split at h2
  ·simp at h2;rw[<-h2.1];exact⟨j,by simp⟩
  ·simp at h2
 ·split at h2
  ·simp at h2
  ·rw[BK]at h2;obtain⟨⟨b,r2⟩,h3,q⟩:=h2;simp only[]at q
   split at q
   ·simp at q;rw[<-q.1];exact⟨j,XQ _ _ _ _ _ _ h3 (by simp)⟩
   ·simp at q
theorem XE(n f:Nat)(acc:List RC)(l:B8)(cs:List RC)(h:IY n f acc l=some cs)(q:∀c∈acc,c.fit):∀c∈cs,c.fit:=by
 induction f generalizing acc l with
 |zero=>
  rw[IY]at h
  split at h
  ·simp at h;rw[<-h];exact q
  ·simp at h
 |succ f j=>
  rw[IY]at h
  split at h
  ·simp at h;rw[<-h];exact q
  ·rw[BK]at h;obtain⟨⟨c,r⟩,h1,h2⟩:=h;refine j _ _ h2 ?_;intro x hx;rw[Bi,A7]at hx;rcases hx with h|rfl
   ·exact q x h
   ·exact T4 _ _ _ _ h1
theorem SY(s:ByteArray)(cs:List RC)(h:(T s.size s.data.toList).bind (PP [])=some cs):∀c∈cs,c.fit:=by rw[NY s.size 40 [] _ rfl]at h;exact XE _ _ _ _ _ h (by simp)
def A2(cs:List RC):List RA:=cs.flatMap fun c=>c.head::c.body
def Cz(all:List RA)(nm:B8):Int:=match all.find? (fun a=>decide (a.name=nm)) with
 |none=> -1
 |some a=>(a.ts.length:Nat)
def Dr(all:List RA):List RA->Option Nat
 |[]=>none
 |a::r=>if Cz all a.name=((a.ts.length:Nat):Int) then Dr all r else some a.pl
def RA.item(a:RA):B8×Nat×Nat:=(a.name,a.ts.length,a.pl)
theorem Sg(b:List RA):((b.map RA.lit).map fun l=>(l.name,l.ts)).zip (b.map RA.spot)=b.map fun a=>((a.name,a.ts.map RT.s),a.spot):=by
 induction b with
 |nil=>rfl
 |cons a b q=>simp only[A6,List.zip_cons_cons,q];rfl
theorem gB(c:RC):c.d.items=(c.head::c.body).map RA.item:=by
 unfold Bd.items Bd.atoms RC.d;simp only[List.zip_cons_cons,A6];rw[Sg,C6];congr 1
 ·simp[RA.item]
 ·apply Ek;intro a _;simp[RA.item,RA.spot]
theorem X1(cs:List RC):(cs.map RC.d).flatMap Bd.items=(A2 cs).map RA.item:=by
 unfold A2;rw[JC,Np];congr 1
 funext c
 exact gB c
def YO(xs:List B8)(ns:List Nat)(done:List RA):Prop:=xs.length=ns.length/\∀k,(BZ xs k=true->Cz done k=((ns.getD (CI xs k) 0:Nat):Int))/\(BZ xs k=false->∀a∈done,a.name≠k)
theorem Ii(done rest:List RA)(k:B8)(n:Nat)(h:Cz done k=(n:Int)):Cz (done++rest) k=(n:Int):=by
 unfold Cz at*;rw[List.find?_append]
 cases hf:done.find? (fun a=>decide (a.name=k)) with
 |none=>rw[hf]at h;simp at h
 |some a=>rw[hf]at h;exact h
theorem La(done rest:List RA)(a:RA)(h:∀x∈done,x.name≠a.name):Cz (done++a::rest) a.name=((a.ts.length:Nat):Int):=by
 unfold Cz;have:done.find? (fun x=>decide (x.name=a.name))=none:=by rw[FZ];intro x hx;simpa using h x hx
 rw[List.find?_append,this];simp
theorem Qa(xs:List B8)(k j:B8)(q:j∈xs):CI (xs++[k]) j=CI xs j:=by simp[CI,q,Ec]
theorem P9(xs:List B8)(k:B8)(hx:k∉xs):CI (xs++[k]) k=xs.length:=by simp[CI,Ec,hx]
theorem Wa(all done rest:List RA)(q:all=done++rest)(xs:List B8)(ns:List Nat)(hS:YO xs ns done):EK xs ns (rest.map RA.item)=Dr all rest:=by
 induction rest generalizing done xs ns with
 |nil=>rfl
 |cons a r t=>
  rw[A6,Dr];show EK xs ns ((a.name,a.ts.length,a.pl)::r.map RA.item)=_;rw[EK];obtain⟨u,hS⟩:=hS;have d:=hS a.name;cases hh:BZ xs a.name
  ·rw[Af (by simp)];have hn:=d.2 hh;have hx:a.name∉xs:=by simpa[BZ]using hh
   rw[q,La done r a hn,Ai rfl,<-q];refine t (done++[a]) (by rw[q];simp) _ _ ⟨by simp[u],?_⟩;intro k;by_cases v:k=a.name
   ·subst v;constructor
    ·intro _;rw[P9 xs _ hx,u];have:=La done [] a hn;rw[this];simp
    ·intro h;simp[BZ]at h
   ·have z:=hS k;constructor
    ·intro h
     have j:k∈xs:=by
      have:k∈xs++[a.name]:=by simpa[BZ]using h
      simpa[v]using this
     rw[Qa xs _ _ j];have b:CI xs k<ns.length:=by rw[CI,Ai j,<-u];exact List.idxOf_lt_length_iff.2 j
     have h1:=z.1 (by simpa[BZ]using j);have e:(ns++[a.ts.length]).getD (CI xs k) 0=ns.getD (CI xs k) 0:=by simp[Ap,AU b]
     rw[e];exact Ii _ _ _ _ h1
    ·intro h x y;rw[Bi,A7]at y;rcases y with g|rfl
     ·refine z.2 ?_ x g;have:k∉xs++[a.name]:=by simpa[BZ]using h
      have j:k∉xs:=fun e=>this (by simp[e]);simpa[BZ]using j
     ·exact fun e=>v e.symm
  ·rw[Ai rfl];have h1:=Ii done (a::r) a.name _ (d.1 hh);rw[<-q]at h1;rw[h1];by_cases hn:ns.getD (CI xs a.name) 0=a.ts.length
   ·rw[Ai hn,Ai (by rw[hn])];refine t (done++[a]) (by rw[q];simp) xs ns ⟨u,?_⟩;intro k;have z:=hS k;constructor
    ·intro h;exact Ii _ _ _ _ (z.1 h)
    ·intro h x y;rw[Bi,A7]at y;rcases y with g|rfl
     ·exact z.2 h x g
     ·intro e;rw[e]at hh;rw[hh]at h;simp at h
   ·rw[Af hn,Af (by omega)]
theorem Wb(cs:List RC):FY (cs.map RC.d)=Dr (A2 cs) (A2 cs):=by unfold FY;rw[X1];exact Wa _ [] _ rfl [] [] ⟨rfl,by intro k;constructor<;>simp[BZ]⟩
def Ew(c:RC)(v:B8):Bool:=c.body.any fun a=> !a.neg&&a.ts.any fun t=>t.var&&decide (t.s=v)
def Gi(c:RC)(ts:List RT):Option Nat:=(ts.find? fun t=>t.var&& !Ew c t.s).map RT.pl
def Jp(c:RC):List RA->Option Nat
 |[]=>none
 |a::r=>(if a.neg=true then Gi c a.ts else none).or (Jp c r)
def D2(c:RC):Option Nat:=(Gi c c.head.ts).or (Jp c c.body)
def El:List RC->Option Nat
 |[]=>none
 |c::r=>(D2 c).or (El r)
theorem Sn(safe:List B8)(q ts:List RT):Fq safe ((q++ts).map RT.pl) q.length (ts.map RT.s)=(ts.find? fun t=>Bo t.s&& !BZ safe t.s).map RT.pl:=by
 induction ts generalizing q with
 |nil=>rfl
 |cons t r j=>
  rw[A6,Fq,List.find?_cons];cases h:(Bo t.s&& !BZ safe t.s)
  ·rw[Af (by simp)];have:=j (q++[t]);rw[Am,List.length_singleton,Bm]at this;exact this
  ·rw[Ai rfl];simp
theorem Qs(xs:List B8)(k v:B8):BZ (DT xs k) v=(BZ xs v||decide (v=k)):=by
 unfold DT;cases h:BZ xs k
 ·rw[Af (by simp)];unfold BZ;by_cases q:v=k
  ·simp[q]
  ·simp[q]
 ·rw[Ai rfl];by_cases q:v=k
  ·subst q;simp[h]
  ·simp[q]
theorem X3(ts xs:List B8)(v:B8):BZ (ts.foldl DT xs) v=(BZ xs v||ts.contains v):=by
 induction ts generalizing xs with
 |nil=>simp
 |cons t r q=>rw[List.foldl_cons,q,Qs,Wn,Bool.or_assoc];congr 2;by_cases h:v=t<;>simp[h]
theorem aJ(ls:List BQ)(xs:List B8)(v:B8):BZ (ls.foldl Fw xs) v=(BZ xs v||ls.any fun l=> !l.neg&&l.ts.contains v):=by
 induction ls generalizing xs with
 |nil=>simp
 |cons l r q=>
  rw[List.foldl_cons,q,List.any_cons];unfold Fw;cases hn:l.neg
  ·rw[Af (by simp),X3,Bool.or_assoc];rfl
  ·rw[Ai rfl];rfl
theorem QD{A:Type}(l:List A)(p q:A->Bool)(h:∀a∈l,p a=q a):l.any p=l.any q:=by
 induction l with
 |nil=>rfl
 |cons a r j=>rw[List.any_cons,List.any_cons,h a (by simp),j (fun x hx=>h x (by simp[hx]))]
theorem RK(ts:List RT)(v:B8):(ts.map RT.s).contains v=ts.any fun t=>decide (t.s=v):=by
 induction ts with
 |nil=>rfl
 |cons t r q=>
  rw[A6,Wn,List.any_cons,q];congr 1;by_cases h:t.s=v
  ·simp[h]
  ·simp[h,show ¬v=t.s from fun e=>h e.symm]
theorem US(c:RC)(j:c.fit)(v:B8)(z:Bo v=true):BZ (PA c.d.lits) v=Ew c v:=by
 unfold PA;rw[aJ];unfold Ew RC.d;rw[List.any_map];simp only[BZ,List.contains_nil,CJ];apply QD;intro a q;show(!a.lit.neg&&a.lit.ts.contains v)=_;unfold RA.lit;simp only[];congr 1;rw[RK];apply QD;intro t ht;by_cases h:t.s=v
 ·rw[j.2 a q t ht,h,z];simp
 ·simp[h]
theorem Vz{A:Type}(l:List A)(p q:A->Bool)(h:∀a∈l,p a=q a):l.find? p=l.find? q:=by
 induction l with
 |nil=>rfl
 |cons a r j=>rw[List.find?_cons,List.find?_cons,h a (by simp),j (fun x hx=>h x (by simp[hx]))]
theorem PQ(c:RC)(q:c.fit)(ts:List RT)(ht:∀t∈ts,t.var=Bo t.s):Fq (PA c.d.lits) (ts.map RT.pl) 0 (ts.map RT.s)=Gi c ts:=by
 have h:=Sn (PA c.d.lits) [] ts;rw[List.nil_append,List.length_nil]at h;rw[h];unfold Gi;congr 1;apply Vz;intro t j;rw[ht t j];cases hv:Bo t.s
 ·rfl
 ·rw[US c q t.s hv]
theorem Yy(c:RC)(a:RA)(q:a∈c.body)(hn:a.neg=false):Gi c a.ts=none:=by
 unfold Gi;rw[Pe,FZ];intro t ht;cases hv:t.var
 ·simp
 ·have:Ew c t.s=true:=by unfold Ew;rw[Ey];refine⟨a,q,?_⟩;rw[hn];simp only[Bool.not_false,BD,Ey];exact⟨t,ht,by simp[hv]⟩
  simp[this]
theorem bZ(c:RC)(j:c.fit)(b:List RA)(hb:∀a∈b,a∈c.body):Fs (PA c.d.lits) (b.map fun a=>((a.name,a.ts.map RT.s),a.spot))=Jp c b:=by
 induction b with
 |nil=>rfl
 |cons a r z=>
  rw[A6,Fs,Jp,z (fun x hx=>hb x (by simp[hx]))];congr 1;have q:=hb a (by simp);have h:=PQ c j a.ts (j.2 a q);show Fq (PA c.d.lits) (a.ts.map RT.pl) 0 (a.ts.map RT.s)=_;rw[h];cases hn:a.neg
  ·rw[Af (by simp)];exact Yy c a q hn
  ·rw[Ai rfl]
theorem XJ(cs:List RC)(q:∀c∈cs,c.fit):EB (cs.map RC.d)=El cs:=by
 induction cs with
 |nil=>rfl
 |cons c r j=>
  rw[A6,EB,El,j (fun x hx=>q x (by simp[hx]))];congr 1;have hc:=q c (by simp);have h1:=PQ c hc c.head.ts hc.1;have h2:=bZ c hc c.body (fun a h=>h);have e:c.d.atoms.zip c.d.ah=((c.head.name,c.head.ts.map RT.s),(⟨0,c.head.pl,c.head.ts.map RT.pl⟩:Dg))::c.body.map fun a=>((a.name,a.ts.map RT.s),a.spot):=by unfold Bd.atoms RC.d;simp only[List.zip_cons_cons];rw[Sg]
  rw[e,Fs,h2];unfold D2;congr 1
structure lI(cs:List RC)(p:B8)(out:List B8):Prop where
 closed:∀c∈cs,(c.head.name=p\/c.head.name∈out)->∀b∈c.body,b.name∈out
 least:∀P:B8->Prop,(∀c∈cs,(c.head.name=p\/P c.head.name)->∀b∈c.body,P b.name)->∀x∈out,P x
theorem Ro(ls:List BQ)(xs:List B8)(v:B8):v∈DD xs ls↔(v∈xs\/∃l∈ls,l.name=v):=by
 induction ls generalizing xs with
 |nil=>simp[DD]
 |cons l r q=>
  unfold DD at*;rw[List.foldl_cons,q]
  have:v∈DT xs l.name↔(v∈xs\/v=l.name):=by
   have h:=Qs xs l.name v;unfold BZ at h;have h1:(DT xs l.name).contains v=true↔(xs.contains v||decide (v=l.name))=true:=by rw[h]
   simpa using h1
  rw[this];constructor
  ·rintro((h|h)|⟨l',h1,h2⟩)
   ·exact .inl h
   ·exact .inr ⟨l,by simp,h.symm⟩
   ·exact .inr ⟨l',by simp[h1],h2⟩
  ·rintro(h|⟨l',h1,h2⟩)
   ·exact .inl (.inl h)
   ·rw[Br]at h1;rcases h1 with rfl|h1
    ·exact .inl (.inr h2.symm)
    ·exact .inr ⟨l',h1,h2⟩
theorem Jo(ds:List Bd)(nm:B8)(xs:List B8)(v:B8):v∈Da ds nm xs↔(v∈xs\/∃d∈ds,d.name=nm/\∃l∈d.lits,l.name=v):=by
 induction ds generalizing xs with
 |nil=>simp[Da]
 |cons d r j=>
  unfold Da at*;rw[List.foldl_cons,j];by_cases hd:d.name=nm
  ·rw[Ai hd,Ro];constructor
   ·rintro((h|⟨l,h1,h2⟩)|⟨q,h1,h2⟩)
    ·exact .inl h
    ·exact .inr ⟨d,by simp,hd,l,h1,h2⟩
    ·exact .inr ⟨q,by simp[h1],h2⟩
   ·rintro(h|⟨q,h1,h2,h3⟩)
    ·exact .inl (.inl h)
    ·rw[Br]at h1;rcases h1 with rfl|h1
     ·exact .inl (.inr h3)
     ·exact .inr ⟨q,h1,h2,h3⟩
  ·rw[Af hd];constructor
   ·rintro(h|⟨q,h1,h2⟩)
    ·exact .inl h
    ·exact .inr ⟨q,by simp[h1],h2⟩
   ·rintro(h|⟨q,h1,h2,h3⟩)
    ·exact .inl h
    ·rw[Br]at h1;rcases h1 with rfl|h1
     ·exact absurd h2 hd
     ·exact .inr ⟨q,h1,h2,h3⟩
def Lt(ds:List Bd)(x y:B8):Prop:=∃d∈ds,d.name=x/\∃l∈d.lits,l.name=y
theorem Ve(ds:List Bd)(P:B8->Prop)(j:∀x y,P x->Lt ds x y->P y)(f i:Nat)(xs:List B8)(h:∀x∈xs,P x):∀x∈Gh ds f i xs,P x:=by
 induction f generalizing i xs with
 |zero=>exact h
 |succ f k=>
  rw[Gh]
  split
  ·rename_i q;apply k;intro x hx;rw[Jo]at hx;rcases hx with hx|hs
   ·exact h x hx
   ·have z:xs.getD i []∈xs:=by rw[Ap,Ar q];exact Aj q
    exact j _ x (h _ z) hs
  ·exact h
theorem N7(ds:List Bd)(f i:Nat)(xs:List B8):∀x∈xs,x∈Gh ds f i xs:=by
 induction f generalizing i xs with
 |zero=>exact fun x h=>h
 |succ f q=>
  rw[Gh]
  split
  ·intro x hx;exact q _ _ x ((Jo _ _ _ _).2 (.inl hx))
  ·exact fun x h=>h
theorem KR(ds:List Bd)(U:List B8)(hU:∀d∈ds,∀l∈d.lits,l.name∈U)(f i:Nat)(hf:f+i=U.length)(xs:List B8)(hx:xs.Nodup/\∀x∈xs,x∈U)
 (v:∀j,j<i->∀y,Lt ds (xs.getD j []) y->y∈xs):∀x∈Gh ds f i xs,∀y,Lt ds x y->y∈Gh ds f i xs:=by
 induction f generalizing i xs with
 |zero=>rw[Gh];intro x z y hs;obtain⟨j,k,rfl⟩:=B3 z;have hl:=QR hx.1 hx.2;have:=v j (by omega) y;rw[Ap,Ar k]at this;exact this hs
 |succ f r=>
  rw[Gh]
  split
  ·rename_i b;have q:=Jn U ds (xs.getD i []) xs hU hx;refine r (i+1) (by omega) _ q.1 ?_;intro j k y hs;obtain⟨t,ht⟩:=q.2;have g:j<xs.length:=by omega
   have e:(Da ds (xs.getD i []) xs).getD j []=xs.getD j []:=by rw[<-ht,Ap,Ap,AU g]
   rw[e]at hs;rw[Jo];by_cases u:j<i
   ·exact .inl (v j u y hs)
   ·have:j=i:=by omega
    subst this;exact .inr hs
  ·rename_i b;intro x z y hs;obtain⟨j,k,rfl⟩:=B3 z;have:=v j (by omega) y;rw[Ap,Ar k]at this;exact this hs
theorem Vd(cs:List RC)(p:B8)(q:List B8)(u:lI cs p q)(h:B8):(BZ q h||decide (p=h))=BZ (D8 (cs.map RC.d) p) h:=by
 have z:∀x y,Lt (cs.map RC.d) x y↔ ∃c∈cs,c.head.name=x/\∃b∈c.body,b.name=y:=by
  intro x y;constructor
  ·rintro⟨d,hd,h1,l,g,h2⟩;rw[C4]at hd;obtain⟨c,hc,rfl⟩:=hd;have v:l∈c.body.map RA.lit:=g;rw[C4]at v;obtain⟨b,hb,rfl⟩:=v;exact⟨c,hc,h1,b,hb,h2⟩
  ·rintro⟨c,hc,h1,b,hb,h2⟩;exact⟨c.d,List.mem_map.2 ⟨c,hc,rfl⟩,h1,b.lit,List.mem_map.2 ⟨b,hb,rfl⟩,h2⟩
 have hU:∀d∈cs.map RC.d,∀l∈d.lits,l.name∈Eb (cs.map RC.d) p:=by intro d hd l g;unfold Eb;rw[Br,C5];exact .inr ⟨d,hd,List.mem_map.2 ⟨l,g,rfl⟩⟩
 have k:=KR (cs.map RC.d) (Eb (cs.map RC.d) p) hU (Eb (cs.map RC.d) p).length 0 (by omega) [p] ⟨by simp,by simp[Eb]⟩ (by intro j hj;omega);have m:p∈D8 (cs.map RC.d) p:=N7 _ _ _ _ p (by simp)
 have r:(h∈q\/p=h)↔h∈D8 (cs.map RC.d) p:=by
  constructor
  ·rintro(s|rfl)
   ·refine u.least (fun x=>x∈D8 (cs.map RC.d) p) ?_ h s;intro c hc t b hb;rcases t with e|n
    ·exact k _ m _ ((z _ _).2 ⟨c,hc,e,b,hb,rfl⟩)
    ·exact k _ n _ ((z _ _).2 ⟨c,hc,rfl,b,hb,rfl⟩)
   ·exact m
  ·intro hn;refine Ve (cs.map RC.d) (fun x=>x∈q\/p=x) ?_ _ _ _ (by simp) h hn;intro x y hx hs;rw[z]at hs;obtain⟨c,hc,h1,b,hb,rfl⟩:=hs;rcases hx with hx|rfl
   ·exact .inl (u.closed c hc (.inr (h1▸hx)) b hb)
   ·exact .inl (u.closed c hc (.inl h1) b hb)
 unfold BZ;rw[Hv];simp only[jC,List.contains_iff_mem,L4];exact r
def Fv(cs:List RC)(c:RC):List RA->Option Nat
 |[]=>none
 |b::r=>if(b.neg&&BZ (D8 (cs.map RC.d) b.name) c.head.name)=true then some b.af else Fv cs c r
def DY(cs:List RC):List RC->Option Nat
 |[]=>none
 |c::r=>(Fv cs c c.body).or (DY cs r)
theorem Tr(cs:List RC)(c:RC)(q b:List RA)(hb:c.body=q++b):FQ (cs.map RC.d) c.d q.length (b.map RA.lit)=Fv cs c b:=by
 induction b generalizing q with
 |nil=>rfl
 |cons a r j=>
  rw[A6,FQ,Fv];have e:(a.lit.neg&&BZ (D8 (cs.map RC.d) a.lit.name) c.d.name)=(a.neg&&BZ (D8 (cs.map RC.d) a.name) c.head.name):=rfl;rw[e]
  split
  ·unfold RC.d;simp only[A6,C6,hb];rw[show 1+q.length=q.length+1 by omega,List.getD_cons_succ,Ap,A8,A0 (by simp)];simp[RA.spot]
  ·have:=j (q++[a]) (by rw[hb];simp);rw[Am,List.length_singleton]at this;exact this
theorem Tp(cs:List RC):Fz (cs.map RC.d)=DY cs cs:=by
 unfold Fz
 have q:∀l:List RC,JJ (cs.map RC.d) (l.map RC.d)=DY cs l:=by
  intro l
  induction l with
  |nil=>rfl
  |cons c r j=>rw[A6,JJ,DY,j];congr 1;exact Tr cs c [] c.body rfl
 exact q cs
def Ir(s:ByteArray):Nat×Nat:=
 if 2000<s.size then(1,0)
 else match (T s.size s.data.toList).bind (PP []) with
  |none=>(2,IF s.data.toList)
  |some cs=>match Dr (A2 cs) (A2 cs) with
   |some p=>(3,p)
   |none=>match El cs with
    |some p=>(4,p)
    |none=>match DY cs cs with
     |some p=>(5,p)
     |none=>(0,0)
theorem Ob(s:ByteArray):Gn s=Ir s:=by
 unfold Gn Ir
 split
 ·rfl
 ·have h:=Gc s
  cases hq:(T s.size s.data.toList).bind (PP []) with
  |none=>rw[hq]at h;simp only[]at h⊢;rw[h,Ai rfl,Sh s h]
  |some cs=>rw[hq]at h;obtain⟨h1,h2⟩:=h;simp only[];rw[h1,Af (by simp),h2];unfold Ef;rw[Wb,XJ cs (SY s cs hq),Tp];rfl
end
section
attribute [local go_sem] AE As
open Go.RowKit Go.WideMaps Go.Maps
def EN(w:World)(base:Nat)(v:Value)(b:List RA):Prop:=
 ∃rows:List (List Value),w.ownsRow base 69 5 v b.length rows.flatten/\rows.length=b.length/\∀(i:Nat) (a:RA) (cs:List Value),b[i]? =some a->rows[i]? =some cs->BY w base a cs
def BT(w:World)(base:Nat)(c:RC)(cs:List Value):Prop:=∃hc q,cs=hc++[q]/\BY w base c.head hc/\EN w base q c.body
def Ck(w:World)(base:Nat)(v:Value)(l:List RC):Prop:=
 ∃rows:List (List Value),w.ownsRow base 71 6 v l.length rows.flatten/\rows.length=l.length/\∀(i:Nat) (c:RC) (cs:List Value),l[i]? =some c->rows[i]? =some cs->BT w base c cs
theorem BY.len{w:World}{base:Nat}{a:RA}{cs:List Value}(h:BY w base a cs):cs.length=5:=by obtain⟨tv,rfl,_⟩:=h;rfl
theorem BT.len{w:World}{base:Nat}{c:RC}{cs:List Value}(h:BT w base c cs):cs.length=6:=by obtain⟨hc,bv,rfl,h1,_⟩:=h;simp[h1.len]
theorem BY.below{w w':World}{base:Nat}{a:RA}{cs:List Value}(h:BY w base a cs)(hb:Below w.heap.size w w'):BY w' base a cs:=by obtain⟨tv,hc,q⟩:=h;exact⟨tv,hc,Ah q hb⟩
theorem EN.below{w w':World}{base:Nat}{v:Value}{b:List RA}(h:EN w base v b)(hb:Below w.heap.size w w'):EN w' base v b:=by obtain⟨rows,j,q,z⟩:=h;exact⟨rows,Ah j hb,q,fun i a cs h1 h2=>(z i a cs h1 h2).below hb⟩
theorem BT.below{w w':World}{base:Nat}{c:RC}{cs:List Value}(h:BT w base c cs)(hb:Below w.heap.size w w'):BT w' base c cs:=by obtain⟨hc,q,h1,h2,h3⟩:=h;exact⟨hc,q,h1,h2.below hb,h3.below hb⟩
theorem Ck.below{w w':World}{base:Nat}{v:Value}{l:List RC}(h:Ck w base v l)(hb:Below w.heap.size w w'):Ck w' base v l:=by obtain⟨rows,j,q,z⟩:=h;exact⟨rows,Ah j hb,q,fun i a cs h1 h2=>(z i a cs h1 h2).below hb⟩
theorem BY.mono{w:World}{base base':Nat}{a:RA}{cs:List Value}(h:BY w base a cs)(hb:base'<=base):BY w base' a cs:=by obtain⟨tv,hc,q⟩:=h;exact⟨tv,hc,BS q hb⟩
theorem H4{w:World}{base:Nat}{ao:Option Addr}{n cap:Nat}{b:List RA}(h:EN w base (.slice ao n cap) b)(hn:n=b.length)(i:Nat)(u:i<b.length):
 ∃g tv,ao=some ⟨g,0,none⟩/\g<w.heap.size/\w.cell? ⟨g,i*5,none⟩=some (.string b[i].w)/\w.cell? ⟨g,i*5+1,none⟩=some tv/\w.cell? ⟨g,i*5+2,none⟩=some (.int .i64 (b[i].pl:Nat))/\w.cell? ⟨g,i*5+3,none⟩=some (.int .i64 (b[i].af:Nat))/\w.cell? ⟨g,i*5+4,none⟩=some (.bool b[i].neg)/\
  w.ownsRow base 130 3 tv b[i].ts.length (b[i].ts.flatMap RT.cells):=by
 subst hn;obtain⟨rows,k,d,v⟩:=h;have q:∀r∈rows,r.length=5:=by intro r y;obtain⟨j,hj,rfl⟩:=B3 y;exact(v j b[j] rows[j] (by simp) (by simp)).len
 obtain⟨g,rfl,hb,hc⟩:=E8 k q d i u;obtain⟨tv,z,ht⟩:=v i b[i] rows[i] (by simp) (by simp);have e:rows.getD i []=rows[i]:=by simp[show i<rows.length by omega]
 rw[e,z]at hc;exact⟨g,tv,rfl,(k.lt g rfl).2,hc 0 (by decide),hc 1 (by decide),hc 2 (by decide),hc 3 (by decide),hc 4 (by decide),ht⟩
theorem DZ{w:World}{base:Nat}{ao:Option Addr}{n cap:Nat}{l:List RC}(h:Ck w base (.slice ao n cap) l)(hn:n=l.length)(i:Nat)(m:i<l.length):
 ∃g tv bo bcap,ao=some ⟨g,0,none⟩/\g<w.heap.size/\w.cell? ⟨g,i*6,none⟩=some (.string l[i].head.w)/\w.cell? ⟨g,i*6+1,none⟩=some tv/\w.cell? ⟨g,i*6+2,none⟩=some (.int .i64 (l[i].head.pl:Nat))/\w.cell? ⟨g,i*6+3,none⟩=some (.int .i64 (l[i].head.af:Nat))/\w.cell? ⟨g,i*6+4,none⟩=some (.bool l[i].head.neg)/\
  w.cell? ⟨g,i*6+5,none⟩=some (.slice bo l[i].body.length bcap)/\w.ownsRow base 130 3 tv l[i].head.ts.length (l[i].head.ts.flatMap RT.cells)/\EN w base (.slice bo l[i].body.length bcap) l[i].body:=by
 subst hn;obtain⟨rows,b,x,d⟩:=h;have z:∀r∈rows,r.length=6:=by intro r u;obtain⟨j,hj,rfl⟩:=B3 u;exact(d j l[j] rows[j] (by simp) (by simp)).len
 obtain⟨g,rfl,hb,hc⟩:=E8 b z x i m;obtain⟨q0,bv,t,⟨tv,p,ht⟩,c⟩:=d i l[i] rows[i] (by simp) (by simp);have e:rows.getD i []=rows[i]:=by simp[show i<rows.length by omega]
 rw[e,t,p]at hc;obtain⟨q,y,k,v⟩:=c;obtain⟨bo,bcap,rfl⟩:=Au y;exact⟨g,tv,bo,bcap,rfl,(b.lt g rfl).2,hc 0 (by decide),hc 1 (by decide),hc 2 (by decide),hc 3 (by decide),hc 4 (by decide),hc 5 (by decide),ht,⟨q,y,k,v⟩⟩
theorem FM{w:World}{base:Nat}{ao:Option Addr}{cap:Nat}{ts:List RT}(h:w.ownsRow base 130 3 (.slice ao ts.length cap) ts.length (ts.flatMap RT.cells))(i:Nat)(j:i<ts.length):
 ∃g,ao=some ⟨g,0,none⟩/\g<w.heap.size/\w.cell? ⟨g,i*3,none⟩=some (.string ts[i].w)/\w.cell? ⟨g,i*3+1,none⟩=some (.bool ts[i].var)/\w.cell? ⟨g,i*3+2,none⟩=some (.int .i64 (ts[i].pl:Nat)):=by
 have q:=h;rw[J5]at q;obtain⟨g,rfl,hb,hc⟩:=E8 q (by intro r z;simp at z;obtain⟨a,_,rfl⟩:=z;rfl) (by simp) i j;have e:(ts.map RT.cells).getD i []=ts[i].cells:=by simp[j]
 rw[e]at hc;exact⟨g,rfl,(q.lt g rfl).2,hc 0 (by decide),hc 1 (by decide),hc 2 (by decide)⟩
def LO(v:B8)(a:RA):Bool:= !a.neg&&a.ts.any fun t=>t.var&&decide (t.s=v)
theorem KB(w:World)(base:Nat)(c:RC)(nm:ByteArray)(tv:Value)(pl x:Int)(f:Bool)(bo:Option Addr)(bcap:Nat)(hR:EN w base (.slice bo c.body.length bcap) c.body)(hn:c.body.length<=40)(ht:∀a∈c.body,a.ts.length<=40)(v:B8):
 Calls prog 64 #[.agg #[.string nm,tv,.int .i64 pl,.int .i64 x,.bool f,.slice bo c.body.length bcap],.string (bs v)] w fun e w'=>e=.returned (.bool (Ew c v))/\Below w.heap.size w w':=by
 go_enter func64,ntmps64;go_wp2
 go_loopw [5] (fun K wr=>∃(i:Nat),i<=c.body.length/\K=.int .i64 i/\Hid ((c.body.drop i).any (LO v)=Ew c v)/\Aw wr w.heap.size [.string nm,tv,.int .i64 pl,.int .i64 x,.bool f,.slice bo c.body.length bcap] 71/\Below w.heap.size w wr) (fun K _=>c.body.length-(intOf K).toNat)
 case atStart=>exact⟨0,by omega,rfl,rfl,Aw.new w [.string nm,tv,.int .i64 pl,.int .i64 x,.bool f,.slice bo c.body.length bcap] 71,Ac _ _⟩
 case round=>
  obtain⟨i,hi,rfl,U,hC,j⟩:=hrel;have c5:wr.cell? ⟨w.heap.size,5,none⟩=some (.slice bo c.body.length bcap):=hC.cell 5;have r:w.heap.size<wr.heap.size:=hC.lt;by_cases u:i<c.body.length
  ·obtain⟨g,tw,rfl,Y,b0,b1,b2,b3,b4,B⟩:=H4 hR rfl i u;have q3:=ht c.body[i] (Aj u);have HD:Hid ((c.body.drop i).any (LO v)=(LO v c.body[i]||(c.body.drop (i+1)).any (LO v))):=by show _=_;rw[Aa u,List.any_cons]
   generalize c.body[i]=a at*;obtain⟨tq,q1,rfl⟩:=Au B;have o:=Ao b1;have l:=Ao b4;rw[<-j.cell (p:=⟨g,i*5+1,none⟩) Y]at b1;clear b0 b2 b3 b4;go_wp2_with fail
   go_loopw [6] (fun V R=>∃(k:Nat),k<=a.ts.length/\V=.int .i64 k/\Hid (((!a.neg&&(a.ts.drop k).any fun t=>t.var&&decide (t.s=v))||(c.body.drop (i+1)).any (LO v))=Ew c v)/\Aw R w.heap.size [.string nm,tv,.int .i64 pl,.int .i64 x,.bool f,.slice (some ⟨g,0,none⟩) c.body.length bcap] 71/\Below w.heap.size w R) (fun V _=>a.ts.length-(intOf V).toNat)
   case atStart=>refine⟨0,by omega,rfl,?_,hC,j⟩;show _=_;rw[<-U.out,HD.out];rfl
   case round=>
    clear hC j c5 r b1;obtain⟨k,hk,rfl,d,hC,j⟩:=hrel;have c5:wr.cell? ⟨w.heap.size,5,none⟩=some (.slice (some ⟨g,0,none⟩) c.body.length bcap):=hC.cell 5;have r:w.heap.size<wr.heap.size:=hC.lt;have b1:=o.out;have b4:=l.out;rw[<-j.cell (p:=⟨g,i*5+1,none⟩) Y]at b1;rw[<-j.cell (p:=⟨g,i*5+4,none⟩) Y]at b4;have q2:g<wr.heap.size:=by omega
    by_cases z:k<a.ts.length
    ·obtain⟨g2,rfl,b,G,Z,P⟩:=FM B k z;rw[<-j.cell (p:=⟨g2,k*3,none⟩) b]at G;rw[<-j.cell (p:=⟨g2,k*3+1,none⟩) b]at Z;rw[<-j.cell (p:=⟨g2,k*3+2,none⟩) b]at P;have J:Hid ((a.ts.drop k).any (fun t=>t.var&&decide (t.s=v))=((a.ts[k].var&&decide (a.ts[k].s=v))||(a.ts.drop (k+1)).any fun t=>t.var&&decide (t.s=v))):=by show _=_;rw[Aa z,List.any_cons]
     have hq:=D4 a.ts[k].s v;have q0:g2<wr.heap.size:=by omega
     generalize a.ts[k]=t at*;unfold RT.w at G;cases q:a.neg
     ·rw[q]at b4;cases hvr:t.var
      ·rw[hvr]at Z;have y:Hid (((!a.neg&&(a.ts.drop (k+1)).any fun t=>t.var&&decide (t.s=v))||(c.body.drop (i+1)).any (LO v))=Ew c v):=by show _=_;rw[<-d.out,J.out,hvr,Dn,CJ,q]
       rw[q]at y;go_wp2_with fail;exact⟨⟨k+1,z,by go_num,y,hC.alloc _,j.alloc (by omega) _⟩,by simp[intOf];omega⟩
      ·rw[hvr]at Z;cases heq:decide (t.s=v)
       ·rw[heq]at hq;have y:Hid (((!a.neg&&(a.ts.drop (k+1)).any fun t=>t.var&&decide (t.s=v))||(c.body.drop (i+1)).any (LO v))=Ew c v):=by show _=_;rw[<-d.out,J.out,hvr,heq,FK,CJ,q]
        rw[q]at y;go_wp2_with fail;exact⟨⟨k+1,z,by go_num,y,hC.alloc _,j.alloc (by omega) _⟩,by simp[intOf];omega⟩
       ·rw[heq]at hq;have Q:=Ao (show Ew c v=true by rw[<-d.out,J.out,q,hvr,heq];rfl);go_wp2_with fail
        go_ret
        rw[Q.out];exact⟨rfl,j.alloc (by omega) _⟩
     ·rw[q]at b4;have y:Hid (((!a.neg&&(a.ts.drop (k+1)).any fun t=>t.var&&decide (t.s=v))||(c.body.drop (i+1)).any (LO v))=Ew c v):=by show _=_;rw[<-d.out,q];rfl
      rw[q]at y;go_wp2_with fail;exact⟨⟨k+1,z,by go_num,y,hC.alloc _,j.alloc (by omega) _⟩,by simp[intOf];omega⟩
    ·have n:k=a.ts.length:=by omega
     have y:Hid ((c.body.drop (i+1)).any (LO v)=Ew c v):=by show _=_;rw[<-d.out,n,AR];simp
     clear n;go_wp2_with fail;exact⟨⟨i+1,u,by go_num,y,hC,j⟩,by simp[intOf];omega⟩
  ·have m:i=c.body.length:=by omega
   have Q:=Ao (show Ew c v=false by rw[<-U.out,m,AR];rfl);clear m;go_wp2
   go_ret
   rw[Q.out];exact⟨rfl,j⟩
theorem I5:(prog.info? 69).map (fun i=>(i.zero,i.size,i.bytes))=some (some (.agg #[.string ⟨#[]⟩,.slice none 0 0,.int .i64 0,.int .i64 0,.bool false]),5,64):=by kernel_rfl
def BB(w:World)(own base:Nat)(v:Value)(b:List RA):Prop:=
 ∃rows:List (List Value),w.ownsRow own 69 5 v b.length rows.flatten/\rows.length=b.length/\∀(i:Nat) (a:RA) (cs:List Value),b[i]? =some a->rows[i]? =some cs->BY w base a cs
theorem BY.kept{w w':World}{base own:Nat}{a:RA}{cs:List Value}{v:Value}{n:Nat}{xs:List Value}(h:BY w base a cs)(j:w.grownBy w' v.ownBlock)(z:w.ownsRow own 69 5 v n xs):BY w' base a cs:=by obtain⟨tv,hc,q⟩:=h;exact⟨tv,hc,q.kept j (Em q z (by decide))⟩
theorem BY.one{w:World}{base:Nat}{a:RA}{cs:List Value}(h:BY w base a cs):∀u∈cs,u.oneCell'=true:=by
 obtain⟨tv,rfl,j⟩:=h;obtain⟨ao,cap,rfl⟩:=Au j;intro u q;simp at q;rcases q with rfl|rfl|rfl|rfl|rfl<;>rfl
theorem BB.more{w w':World}{own base:Nat}{v v':Value}{b b2:List RA}{rows rows2:List (List Value)}(k:rows.length=b.length)(d:∀(i:Nat) (a:RA) (cs:List Value),b[i]? =some a->rows[i]? =some cs->BY w base a cs)
 (q:rows2.length=b2.length)(z:∀(i:Nat) (a:RA) (cs:List Value),b2[i]? =some a->rows2[i]? =some cs->BY w base a cs)(u:w.ownsRow own 69 5 v b.length rows.flatten)
 (j:w'.ownsRow own 69 5 v' (b.length+b2.length) (rows.flatten++rows2.flatten))(y:w.grownBy w' v.ownBlock):BB w' own base v' (b++b2):=by
 refine⟨rows++rows2,by rw[Am,List.flatten_append];exact j,by simp[k,q],?_⟩;intro i a cs h1 h2;by_cases g:i<b.length
 ·rw[AU g]at h1;rw[AU (by omega)]at h2;exact(d i a cs h1 h2).kept y u
 ·rw[A0 (by omega)]at h1;rw[A0 (by omega),k]at h2;exact(z _ a cs h1 h2).kept y u
theorem IA{w w':World}{own base:Nat}{v:Value}{b b2:List RA}{rows rows2:List (List Value)}(k:rows.length=b.length)(u:∀(i:Nat) (a:RA) (cs:List Value),b[i]? =some a->rows[i]? =some cs->BY w base a cs)
 (q:∀(i:Nat) (a:RA) (cs:List Value),b2[i]? =some a->rows2[i]? =some cs->BY w base a cs)(z:w.ownsRow own 69 5 v b.length rows.flatten)(j:w.grownBy w' v.ownBlock):
 ∀(i:Nat) (a:RA) (cs:List Value),(b++b2)[i]? =some a->(rows++rows2)[i]? =some cs->BY w' base a cs:=by
 intro i a cs h1 h2;by_cases y:i<b.length
 ·rw[AU y]at h1;rw[AU (by omega)]at h2;exact(u i a cs h1 h2).kept j z
 ·rw[A0 (by omega)]at h1;rw[A0 (by omega),k]at h2;exact(q _ a cs h1 h2).kept j z
theorem Gg{w:World}{base:Nat}{e:TypeId}{size g n cap m:Nat}{xs:List Value}(h:w.ownsRow base e size (.slice (some ⟨g,0,none⟩) n cap) m xs):m<=cap/\n=m:=by
 rcases h.2 with⟨h1,_⟩|⟨g',q0,cur,q,_,_,hc,_⟩
 ·simp at h1
 ·simp only[Bx]at q;obtain⟨_,h2,h3⟩:=q;exact⟨by omega,h2⟩
theorem Hw{P:Program}(w:World){p:Array Oper}{rest:List Oper}{o:Oper}{a:Act}{Q:Exit->Act->World->Prop}(Z:o.guard=none)(s x:Operand)(t:TypeId)
 (B:o.op=.call { callee:=.builtin .append,args:=#[s,x],argTypes:=#[t,t] })
 (base:Nat)(e:TypeId)(i:TypeInfo)(z:Value)(size bytes:Nat)(ht:P.underlying t=some (.slice e))(U:P.info? e=some i)(R:i.zero=some z)
 (d:i.size=size)(J:i.bytes=bytes)(K:z.cells.size=size)(Y:0<size)
 (v:Value)(n:Nat)(xs:List Value)(hs:a.eval s=v)(r:w.ownsRow base e size v n xs)(q0:0<n)
 (f:Addr)(m c:Nat)(q:List Value)(hx:a.eval x=.slice (some f) m c)(G:q.length=m*size)(b:∀j u,q[j]? =some u->w.cell? (f.add j)=some u)(h1:∀u∈q,u.oneCell'=true)
 (l:n+m<=maxLen)(y:(n+m)*bytes<=140737488355328)(k:base<=w.heap.size)
 (h:∀g cap w',w'.ownsRow base e size (.slice (some ⟨g,0,none⟩) (n+m) cap) (n+m) (xs++q)->w.grownBy w' v.ownBlock->wpList P p Q rest (a.put o.dst (.slice (some ⟨g,0,none⟩) (n+m) cap)) w'):wpList P p Q (o::rest) a w:=by
 refine DR w Z s x t B base e i z size bytes ht U R d J K Y v n xs hs r f m c q hx G b h1 l y k ?_;intro v' w' h2 h3 _;rcases h2.2 with⟨V,hn⟩|⟨g,cap,cur,V,_⟩
 ·omega
 ·subst V;exact h g cap w' h2 h3
theorem Ua(l:List RC)(i:Nat)(h:i<l.length):A2 (l.take (i+1))=A2 (l.take i)++[l[i].head]++l[i].body:=by unfold A2;rw[Ad h,BG,Ca,Bm];rfl
theorem LP(w:World)(base:Nat)(ao:Option Addr)(cap:Nat)(l:List RC)(hL:Ck w base (.slice ao l.length cap) l)(hn:l.length<=40)(hb:∀c∈l,c.body.length<=4):
 Calls prog 30 #[.slice ao l.length cap] w fun e w'=>∃v,e=.returned v/\BB w' w.heap.size base v (A2 l)/\Below w.heap.size w w':=by
 obtain⟨i1,B,R,P,C⟩:=Bc I5;go_enter func30,ntmps30;go_wp2
 go_loopw [3,4] (fun ov iv wr=>∃(i:Nat),i<=l.length/\iv=.int .i64 i/\BB wr w.heap.size base ov (A2 (l.take i))/\(A2 (l.take i)).length<=5*i/\Below w.heap.size w wr) (fun _ iv _=>l.length-(intOf iv).toNat)
 case atStart=>exact⟨0,by omega,rfl,⟨[],Ak _ _ _ _,rfl,by simp[A2]⟩,by simp[A2],Ag _ _⟩
 case round=>
  obtain⟨i,hi,rfl,hG,j5,t⟩:=hrel;by_cases n:i<l.length
  ·obtain⟨g,tv,bo,bcap,rfl,G,b0,b1,b2,b3,b4,b5,hT,hR⟩:=DZ (hL.below (Ag _ w)) rfl i n;have x:=Ua l i n;have j4:=hb l[i] (Aj n);generalize l[i]=c at*;generalize q8:A2 (l.take i)=acc at*;have K:=Ao x;obtain⟨rows,J,h,hr⟩:=hG;obtain⟨oo,j3,rfl⟩:=Au J;rw[<-t.cell (p:=⟨g,i*6,none⟩) G]at b0;rw[<-t.cell (p:=⟨g,i*6+1,none⟩) G]at b1;rw[<-t.cell (p:=⟨g,i*6+2,none⟩) G]at b2;rw[<-t.cell (p:=⟨g,i*6+3,none⟩) G]at b3;rw[<-t.cell (p:=⟨g,i*6+4,none⟩) G]at b4;have j6:=t.size;clear x q8;have S:BY w base c.head [.string c.head.w,tv,.int .i64 (c.head.pl:Nat),.int .i64 (c.head.af:Nat),.bool c.head.neg]:=⟨tv,rfl,hT⟩;have Z:=S.one;have f:=Ao (S.below (t.mono (Ab _)));have M:=Ao (hR.below (t.mono (Ab _)));have O:=A9 J;have q0:(acc++[c.head]++c.body).length=acc.length+1+c.body.length:=by simp;omega
   rcases(show(bo=none/\c.body=[]/\bcap=0)\/∃s,bo=some ⟨s,0,none⟩ by
    obtain⟨q,d,_,_⟩:=hR;rcases d.2 with⟨h1,h2⟩|⟨s,_,_,h1,_⟩
    ·simp only[Bx]at h1;exact .inl ⟨h1.1,De h2,h1.2.2⟩
    ·simp only[Bx]at h1
     exact .inr ⟨s,h1.1⟩) with⟨rfl,E,rfl⟩|⟨s,rfl⟩
   ·rw[E,List.length_nil]at b5;clear M hR;go_wp2_with (at_builtin;refine AF _ rfl _ _ 64 rfl w.heap.size 69 i1 _ 5 64 underlying64 B R P C rfl (by decide) _ acc.length rows.flatten rfl (J.alloc _) ⟨wr.heap.size,0,none⟩ 1 [.string c.head.w,tv,.int .i64 (c.head.pl:Nat),.int .i64 (c.head.af:Nat),.bool c.head.neg] rfl rfl (AS _ _ _) Z (by unfold maxLen;omega) (by omega) (by simp;omega) ?_;intro g2 o w2 y k;have z:Below w.heap.size w w2:=(t.alloc (by omega) _).grown k (by simp;omega) O;have e5:=(z.cell (p:=⟨g,i*6+5,none⟩) G).trans b5;have j1:=(Gg y).1;have N:=Ao (BB.more (b:=acc) (b2:=[c.head]) (rows2:=[[.string c.head.w,tv,.int .i64 (c.head.pl:Nat),.int .i64 (c.head.af:Nat),.bool c.head.neg]]) h (fun i a cs h1 h2=>(hr i a cs h1 h2).below (Ac wr _)) rfl (fun i a cs h1 h2=>by cases i with|zero=>(simp at h1 h2;subst h1 h2;exact f.out.below (Ac wr _))|succ i=>simp at h1) (J.alloc _) (by simpa using y) k);have q1:=z.size;have X:=Ao (IA (b:=acc) (b2:=[c.head]) (rows2:=[[.string c.head.w,tv,.int .i64 (c.head.pl:Nat),.int .i64 (c.head.af:Nat),.bool c.head.neg]]) h (fun i a cs h1 h2=>(hr i a cs h1 h2).below (Ac wr _)) (fun i a cs h1 h2=>by cases i with|zero=>(simp at h1 h2;subst h1 h2;exact f.out.below (Ac wr _))|succ i=>simp at h1) (J.alloc _) k));have Y:A2 (l.take (i+1))=acc++[c.head]:=by rw[K.out,E,BC]
    exact⟨⟨i+1,n,by go_num,by rw[Y];exact N.out,by rw[Y,Am,List.length_singleton];omega,z⟩,by simp[intOf];omega⟩
   ·obtain⟨q,d,Q,U⟩:=hR;have A:q.flatten.length=c.body.length*5:=d.1;have I:s<w.heap.size:=(d.lt s rfl).2;have V:∀u∈q.flatten,u.oneCell'=true:=by intro u hu;rw[dS]at hu;obtain⟨r,q9,j0⟩:=hu;obtain⟨j,hj,rfl⟩:=B3 q9;exact(U j c.body[j] q[j] (by simp) (by simp)).one u j0
    have q3:Hid (∀W:World,Below w.heap.size w W->∀j u,q.flatten[j]? =some u->W.cell? ((⟨s,0,none⟩:Addr).add j)=some u):=by intro W hW j u hj;have m:=d.cells (g:=s) rfl j u hj;rw[Jg]at m⊢;rw[hW.cell (p:=⟨s,0+j,none⟩) I];exact m
    have q2:Hid (∀W:World,Below w.heap.size w W->∀(i:Nat) (a:RA) (cs:List Value),c.body[i]? =some a->q[i]? =some cs->BY W base a cs):=fun W hW i a cs h1 h2=>(U i a cs h1 h2).below hW;have q4:=Ao Q;clear M d U Q;go_wp2_with (first|(at_builtin;have _t:=y;(refine Hw _ rfl _ _ 64 rfl w.heap.size 69 i1 _ 5 64 underlying64 B R P C rfl (by decide) _ (acc.length+1) _ rfl y (by omega) ⟨s,0,none⟩ c.body.length bcap q.flatten rfl A (q3.out w2 z) V (by unfold maxLen;omega) (by omega) (by omega) ?_);intro g3 j2 w3 q7 L)|(at_builtin;refine AF _ rfl _ _ 64 rfl w.heap.size 69 i1 _ 5 64 underlying64 B R P C rfl (by decide) _ acc.length rows.flatten rfl (J.alloc _) ⟨wr.heap.size,0,none⟩ 1 [.string c.head.w,tv,.int .i64 (c.head.pl:Nat),.int .i64 (c.head.af:Nat),.bool c.head.neg] rfl rfl (AS _ _ _) Z (by unfold maxLen;omega) (by omega) (by simp;omega) ?_;intro g2 o w2 y k;have z:Below w.heap.size w w2:=(t.alloc (by omega) _).grown k (by simp;omega) O;have e5:=(z.cell (p:=⟨g,i*6+5,none⟩) G).trans b5;have j1:=(Gg y).1;have N:=Ao (BB.more (b:=acc) (b2:=[c.head]) (rows2:=[[.string c.head.w,tv,.int .i64 (c.head.pl:Nat),.int .i64 (c.head.af:Nat),.bool c.head.neg]]) h (fun i a cs h1 h2=>(hr i a cs h1 h2).below (Ac wr _)) rfl (fun i a cs h1 h2=>by cases i with|zero=>(simp at h1 h2;subst h1 h2;exact f.out.below (Ac wr _))|succ i=>simp at h1) (J.alloc _) (by simpa using y) k);have q1:=z.size;have X:=Ao (IA (b:=acc) (b2:=[c.head]) (rows2:=[[.string c.head.w,tv,.int .i64 (c.head.pl:Nat),.int .i64 (c.head.af:Nat),.bool c.head.neg]]) h (fun i a cs h1 h2=>(hr i a cs h1 h2).below (Ac wr _)) (fun i a cs h1 h2=>by cases i with|zero=>(simp at h1 h2;subst h1 h2;exact f.out.below (Ac wr _))|succ i=>simp at h1) (J.alloc _) k)));have q5:Below w.heap.size w w3:=z.grown L (by omega) (A9 y);have q6:=BB.more (w:=w2) (v:=.slice (some ⟨g2,0,none⟩) (acc.length+1) o) (b:=acc++[c.head]) (b2:=c.body) (rows:=rows++[[.string c.head.w,tv,.int .i64 (c.head.pl:Nat),.int .i64 (c.head.af:Nat),.bool c.head.neg]]) (rows2:=q) (by simp[h]) X.out q4.out (q2.out w2 z) (by simpa using y) (by simpa using q7) (by exact L);exact⟨⟨i+1,n,by go_num,by rw[K.out];exact q6,by rw[K.out,q0];omega,q5⟩,by simp[intOf];omega⟩
  ·have H:i=l.length:=by omega
   rw[H,AL]at hG;clear H;go_wp2
   go_ret
   exact⟨_,rfl,hG,t⟩
theorem Gw{w:World}{own base:Nat}{ao:Option Addr}{n cap:Nat}{b:List RA}(h:BB w own base (.slice ao n cap) b)(hn:n=b.length)(i:Nat)(u:i<b.length):
 ∃g tv,ao=some ⟨g,0,none⟩/\g<w.heap.size/\w.cell? ⟨g,i*5,none⟩=some (.string b[i].w)/\w.cell? ⟨g,i*5+1,none⟩=some tv/\w.cell? ⟨g,i*5+2,none⟩=some (.int .i64 (b[i].pl:Nat))/\w.cell? ⟨g,i*5+3,none⟩=some (.int .i64 (b[i].af:Nat))/\w.cell? ⟨g,i*5+4,none⟩=some (.bool b[i].neg)/\
  w.ownsRow base 130 3 tv b[i].ts.length (b[i].ts.flatMap RT.cells):=by
 subst hn;obtain⟨rows,k,d,v⟩:=h;have q:∀r∈rows,r.length=5:=by intro r y;obtain⟨j,hj,rfl⟩:=B3 y;exact(v j b[j] rows[j] (by simp) (by simp)).len
 obtain⟨g,rfl,hb,hc⟩:=E8 k q d i u;obtain⟨tv,z,ht⟩:=v i b[i] rows[i] (by simp) (by simp);have e:rows.getD i []=rows[i]:=by simp[show i<rows.length by omega]
 rw[e,z]at hc;exact⟨g,tv,rfl,(k.lt g rfl).2,hc 0 (by decide),hc 1 (by decide),hc 2 (by decide),hc 3 (by decide),hc 4 (by decide),ht⟩
theorem BB.form{w:World}{own base:Nat}{v:Value}{b:List RA}(h:BB w own base v b):∃ao cap,v=.slice ao b.length cap:=by obtain⟨rows,q,_,_⟩:=h;exact Au q
theorem BB.below{w w':World}{own base:Nat}{v:Value}{b:List RA}(h:BB w own base v b)(hb:Below w.heap.size w w'):BB w' own base v b:=by obtain⟨rows,j,q,z⟩:=h;exact⟨rows,Ah j hb,q,fun i a cs h1 h2=>(z i a cs h1 h2).below hb⟩
theorem GA(l:List RC)(hb:∀c∈l,c.body.length<=4):(A2 l).length<=5*l.length:=by
 induction l with
 |nil=>simp[A2]
 |cons c l q=>have h1:=hb c (by simp);have h2:=q (fun x hx=>hb x (by simp[hx]));unfold A2 at*;simp only[Cg,Am,List.length_cons];omega
theorem WO(w:World)(base:Nat)(ao:Option Addr)(cap:Nat)(l:List RC)(n:Ck w base (.slice ao l.length cap) l)(hn:l.length<=40)(hb:∀c∈l,c.body.length<=4)(nm:B8):
 Calls prog 31 #[.slice ao l.length cap,.string (bs nm)] w fun e w'=>e=.returned (.int .i64 (Cz (A2 l) nm))/\Below w.heap.size w w':=by
 have z:=Ao (LP w base ao cap l n hn hb);have u:=GA l hb;obtain⟨all,j⟩:∃all,Hid (all=A2 l):=⟨_,rfl⟩;rw[<-j.out]at z u⊢;clear j n;go_enter func31,ntmps31;go_wp2_with fail;refine(z.out).mono ?_;rintro e w1 ⟨v,rfl,m,p⟩;obtain⟨oo,q0,rfl⟩:=m.form;go_wp2_with fail
 go_loopw [6] (fun r wr=>∃(i:Nat),i<=all.length/\r=.int .i64 i/\Hid (Cz (all.drop i) nm=Cz all nm)/\wr=w1) (fun r _=>all.length-(intOf r).toNat)
 case atStart=>exact⟨0,by omega,rfl,rfl,rfl⟩
 case round=>
  obtain⟨i,hi,rfl,t,rfl⟩:=hrel;by_cases q:i<all.length
  ·obtain⟨g,tv,rfl,hg,b0,b1,b2,b3,b4,s⟩:=Gw m rfl i q
   have HD:Hid (Cz (all.drop i) nm=if all[i].name=nm then((all[i].ts.length:Nat):Int) else Cz (all.drop (i+1)) nm):=by
    show _=_;rw[Aa q];unfold Cz;rw[List.find?_cons];by_cases h:all[i].name=nm
    ·simp[h]
    ·simp[h]
   have hq:=D4 all[i].name nm;generalize all[i]=a at*;obtain⟨tq,q1,rfl⟩:=Au s;unfold RA.w at b0;cases hd:decide (a.name=nm)
   ·rw[hd]at hq;have b:¬a.name=nm:=by simpa using hd
    have x:Hid (Cz (all.drop (i+1)) nm=Cz all nm):=by show _=_;rw[<-t.out,HD.out,Af b]
    clear b hd;go_wp2;exact⟨⟨i+1,q,by go_num,x,trivial⟩,by simp[intOf];omega⟩
   ·rw[hd]at hq;have y:a.name=nm:=by simpa using hd
    have d:=Ao (show Cz all nm=((a.ts.length:Nat):Int) by rw[<-t.out,HD.out,Ai y]);clear y hd;go_wp2
    go_ret
    rw[d.out];exact⟨rfl,p⟩
  ·have k:i=all.length:=by omega
   have d:=Ao (show Cz all nm= -1 by rw[<-t.out,k,AR];rfl);clear k;go_wp2
   go_ret
   rw[d.out];exact⟨rfl,p⟩
def FV(c:RC):Bool->List RA->Option Nat
 |_,[]=>none
 |f,a::r=>(if(f||a.neg)=true then Gi c a.ts else none).or (FV c false r)
theorem ZR(c:RC)(b:List RA):Jp c b=FV c false b:=by
 induction b with
 |nil=>rfl
 |cons a r q=>rw[Jp,FV,q,CJ]
theorem ZQ(c:RC):D2 c=FV c true (c.head::c.body):=by unfold D2;rw[FV,ZR,KN,Ai rfl]
def G6(c:RC)(q:Bool)(ts:List RT):Option Nat:=if q=true then Gi c ts else none
theorem Tg(c:RC)(q:Bool)(t:RT)(ts:List RT):G6 c q (t::ts)=if(q&&(t.var&& !Ew c t.s))=true then some t.pl else G6 c q ts:=by
 unfold G6 Gi;cases q
 ·rfl
 ·rw[Ai rfl,List.find?_cons];cases h:(t.var&& !Ew c t.s)
  ·rfl
  ·rfl
def kG:Option Nat->Int
 |some p=>(p:Nat)
 |none=> -1
theorem WB(w:World)(base:Nat)(c:RC)(tv:Value)(bo:Option Addr)(bcap:Nat)(hT:w.ownsRow base 130 3 tv c.head.ts.length (c.head.ts.flatMap RT.cells))(hR:EN w base (.slice bo c.body.length bcap) c.body)(j1:base<=w.heap.size)(hn:c.body.length<=4)(ht:∀a∈c.head::c.body,a.ts.length<=3):
 Calls prog 32 #[.agg #[.string c.head.w,tv,.int .i64 (c.head.pl:Nat),.int .i64 (c.head.af:Nat),.bool c.head.neg,.slice bo c.body.length bcap]] w fun e w'=>e=.returned (.int .i64 (kG (D2 c)))/\Below w.heap.size w w':=by
 have K:Below w.heap.size w ((w.alloc (.cells #[.string c.head.w,tv,.int .i64 (c.head.pl:Nat),.int .i64 (c.head.af:Nat),.bool c.head.neg,.slice bo c.body.length bcap] 71)).alloc (.cells #[.string c.head.w,tv,.int .i64 (c.head.pl:Nat),.int .i64 (c.head.af:Nat),.bool c.head.neg,.slice bo c.body.length bcap] 71)):=((Ag _ w).alloc (Ab _) _).alloc (by simp) _;have H:=EI w [.string c.head.w,tv,.int .i64 (c.head.pl:Nat),.int .i64 (c.head.af:Nat),.bool c.head.neg,.slice bo c.body.length bcap] 71 [.string c.head.w,tv,.int .i64 (c.head.pl:Nat),.int .i64 (c.head.af:Nat),.bool c.head.neg,.slice bo c.body.length bcap] 71;have q2:=C9 w (.cells #[.string c.head.w,tv,.int .i64 (c.head.pl:Nat),.int .i64 (c.head.af:Nat),.bool c.head.neg,.slice bo c.body.length bcap] 71) [.string c.head.w,tv,.int .i64 (c.head.pl:Nat),.int .i64 (c.head.af:Nat),.bool c.head.neg,.slice bo c.body.length bcap] 71
 have q0:Ck ((w.alloc (.cells #[.string c.head.w,tv,.int .i64 (c.head.pl:Nat),.int .i64 (c.head.af:Nat),.bool c.head.neg,.slice bo c.body.length bcap] 71)).alloc (.cells #[.string c.head.w,tv,.int .i64 (c.head.pl:Nat),.int .i64 (c.head.af:Nat),.bool c.head.neg,.slice bo c.body.length bcap] 71)) base (.slice (some ⟨w.heap.size+1,0,none⟩) 1 1) [c]:=by
  refine⟨[[.string c.head.w,tv,.int .i64 (c.head.pl:Nat),.int .i64 (c.head.af:Nat),.bool c.head.neg,.slice bo c.body.length bcap]],⟨rfl,.inr ⟨w.heap.size+1,1,#[.string c.head.w,tv,.int .i64 (c.head.pl:Nat),.int .i64 (c.head.af:Nat),.bool c.head.neg,.slice bo c.body.length bcap],rfl,by omega,q2,Ab _,by decide,rfl,rfl⟩⟩,rfl,?_⟩;intro i c' cs h1 h2
  cases i with
  |zero=>simp at h1 h2;subst h1 h2;exact⟨_,_,rfl,⟨tv,rfl,Ah hT K⟩,hR.below K⟩
  |succ i=>simp at h1
 have Z:=Ao (LP _ base (some ⟨w.heap.size+1,0,none⟩) 1 [c] q0 (by simp) (by simpa using hn));have B:A2 [c]=c.head::c.body:=by simp[A2]
 rw[B]at Z;have I:=Ao (ZQ c);obtain⟨all,R⟩:∃all,Hid (all=c.head::c.body):=⟨_,rfl⟩;have j0:all.length<=5:=by rw[R.out];simp;omega
 have q8:∀a∈c.body,a.ts.length<=3:=fun a ha=>ht a (by simp[ha]);rw[<-R.out]at Z I ht;have S:=Ao hR;have f:Hid (∀a∈c.body,a.ts.length<=40):=fun a ha=>by have:=q8 a ha;omega
 have A:=Ao H;have E:=Ao K;clear R B q0 q2 H K hR;go_enter func32,ntmps32;go_wp2_with fail;refine(Z.out).mono ?_;rintro e w1 ⟨v,rfl,n,C⟩;obtain⟨oo,Q,rfl⟩:=n.form;have h:=A.out.below C;have G:Below w.heap.size w w1:=E.out.trans (C.mono (by simp;omega));clear A E Z C;go_wp2_with fail
 go_loopw [4] (fun iv wr=>∃(i:Nat),i<=all.length/\iv=.int .i64 i/\Hid (FV c (decide (i=0)) (all.drop i)=D2 c)/\Aw wr w.heap.size [.string c.head.w,tv,.int .i64 (c.head.pl:Nat),.int .i64 (c.head.af:Nat),.bool c.head.neg,.slice bo c.body.length bcap] 71/\BB wr ((w.alloc (.cells #[.string c.head.w,tv,.int .i64 (c.head.pl:Nat),.int .i64 (c.head.af:Nat),.bool c.head.neg,.slice bo c.body.length bcap] 71)).alloc (.cells #[.string c.head.w,tv,.int .i64 (c.head.pl:Nat),.int .i64 (c.head.af:Nat),.bool c.head.neg,.slice bo c.body.length bcap] 71)).heap.size base (.slice oo all.length Q) all/\Below w.heap.size w wr) (fun iv _=>all.length-(intOf iv).toNat)
 case atStart=>exact⟨0,by omega,rfl,I.out.symm,h,n,G⟩
 case round=>
  clear h n G;obtain⟨i,hi,rfl,HX,hC,n,u⟩:=hrel;by_cases l:i<all.length
  ·obtain⟨g,tw,rfl,hg,b0,b1,b2,b3,b4,V⟩:=Gw n rfl i l;have j4:=ht all[i] (Aj l);have HD:Hid (FV c (decide (i=0)) (all.drop i)=(G6 c (decide (i=0)||all[i].neg) all[i].ts).or (FV c false (all.drop (i+1)))):=by show _=_;rw[Aa l,FV];rfl
   have x:Hid (∀W:World,BB W ((w.alloc (.cells #[.string c.head.w,tv,.int .i64 (c.head.pl:Nat),.int .i64 (c.head.af:Nat),.bool c.head.neg,.slice bo c.body.length bcap] 71)).alloc (.cells #[.string c.head.w,tv,.int .i64 (c.head.pl:Nat),.int .i64 (c.head.af:Nat),.bool c.head.neg,.slice bo c.body.length bcap] 71)).heap.size base (.slice (some ⟨g,0,none⟩) all.length Q) all->∃tq m,W.cell? ⟨g,i*5+1,none⟩=some (.slice tq all[i].ts.length m)/\W.cell? ⟨g,i*5+4,none⟩=some (.bool all[i].neg)/\W.ownsRow base 130 3 (.slice tq all[i].ts.length m) all[i].ts.length (all[i].ts.flatMap RT.cells)):=by intro W hW;obtain⟨g',j6,q3,_,_,M,_,_,N,r⟩:=Gw hW rfl i l;simp only[Al,BM,Dx]at q3;subst q3;obtain⟨tq,m,rfl⟩:=Au r;exact⟨tq,m,M,N,r⟩
   generalize all[i]=a at*;obtain⟨tq,m,rfl⟩:=Au V;clear b0 b2 b3;have c5:=hC.cell 5;go_wp2_with fail
   go_loopw [5] (fun kv wr=>∃(k:Nat),k<=a.ts.length/\kv=.int .i64 k/\Hid ((G6 c (decide (i=0)||a.neg) (a.ts.drop k)).or (FV c false (all.drop (i+1)))=D2 c)/\Aw wr w.heap.size [.string c.head.w,tv,.int .i64 (c.head.pl:Nat),.int .i64 (c.head.af:Nat),.bool c.head.neg,.slice bo c.body.length bcap] 71/\BB wr ((w.alloc (.cells #[.string c.head.w,tv,.int .i64 (c.head.pl:Nat),.int .i64 (c.head.af:Nat),.bool c.head.neg,.slice bo c.body.length bcap] 71)).alloc (.cells #[.string c.head.w,tv,.int .i64 (c.head.pl:Nat),.int .i64 (c.head.af:Nat),.bool c.head.neg,.slice bo c.body.length bcap] 71)).heap.size base (.slice (some ⟨g,0,none⟩) all.length Q) all/\Below w.heap.size w wr) (fun kv _=>a.ts.length-(intOf kv).toNat)
   case atStart=>refine⟨0,by omega,rfl,?_,hC,n,u⟩;show _=_;rw[B4,<-HD.out,HX.out]
   case round=>
    clear hC n u c5 b1 b4 V;obtain⟨k,hk,rfl,P,hC,n,u⟩:=hrel;obtain⟨j5,q9,b1,b4,V⟩:=x.out wr n;obtain⟨c0,c1,c2,c3,c4,c5⟩:=(show wr.cell? ⟨w.heap.size,0,none⟩=some (.string c.head.w)/\wr.cell? ⟨w.heap.size,1,none⟩=some tv/\wr.cell? ⟨w.heap.size,2,none⟩=some (.int .i64 (c.head.pl:Nat))/\wr.cell? ⟨w.heap.size,3,none⟩=some (.int .i64 (c.head.af:Nat))/\wr.cell? ⟨w.heap.size,4,none⟩=some (.bool c.head.neg)/\wr.cell? ⟨w.heap.size,5,none⟩=some (.slice bo c.body.length bcap) from⟨hC.cell 0,hC.cell 1,hC.cell 2,hC.cell 3,hC.cell 4,hC.cell 5⟩);by_cases o:k<a.ts.length
    ·obtain⟨g3,rfl,j3,d0,d1,d2⟩:=FM V k o;have X:Hid (G6 c (decide (i=0)||a.neg) (a.ts.drop k)=if((decide (i=0)||a.neg)&&(a.ts[k].var&& !Ew c a.ts[k].s))=true then some a.ts[k].pl else G6 c (decide (i=0)||a.neg) (a.ts.drop (k+1))):=by show _=_;rw[Aa o,Tg]
     generalize a.ts[k]=t at*;unfold RT.w at d0;have z:=Aw.new wr [.string (bs t.s),.bool t.var,.int .i64 (t.pl:Nat)] 130;have j2:w.heap.size<wr.heap.size:=hC.lt;cases hbd:Ew c t.s
     ·cases hvr:t.var
      ·rw[hvr]at d1 z;have Y:Hid ((G6 c (decide (i=0)||a.neg) (a.ts.drop (k+1))).or (FV c false (all.drop (i+1)))=D2 c):=by show _=_;rw[<-P.out,X.out,Af (by simp[hvr])]
       go_wp2_with (go_at_call 64;refine(KB _ base c _ _ _ _ _ bo bcap (by exact(S.out.below u).below (Ac wr _)) (by omega) (f.out) t.s).mono ?_;rintro e w2 ⟨p,q⟩;rw[hbd]at p;subst p;have j:Below wr.heap.size wr w2:=(Ac wr _).trans (q.mono (by simp));have d:=hC.below j;have y:=n.below j;obtain⟨L,f1,f2⟩:=(show w2.cell? ⟨wr.heap.size,0,none⟩=some (.string (bs t.s))/\w2.cell? ⟨wr.heap.size,1,none⟩=some (.bool false)/\w2.cell? ⟨wr.heap.size,2,none⟩=some (.int .i64 (t.pl:Nat)) from⟨(z.below q).cell 0,(z.below q).cell 1,(z.below q).cell 2⟩);obtain⟨J,b,M,N,r⟩:=x.out w2 y);exact⟨⟨k+1,o,by go_num,Y,d,y,u.trans (j.mono u.size)⟩,by simp[intOf];omega⟩
      ·rw[hvr]at d1 z;by_cases U:i=0
       ·have q7:((i:Int)==0)=true:=by rw[U];rfl
        have O:=Ao (show D2 c=some t.pl by rw[<-P.out,X.out,Ai (by simp[hvr,hbd,U])];rfl);clear U;go_wp2_with (go_at_call 64;refine(KB _ base c _ _ _ _ _ bo bcap (by exact(S.out.below u).below (Ac wr _)) (by omega) (f.out) t.s).mono ?_;rintro e w2 ⟨p,q⟩;rw[hbd]at p;subst p;have j:Below wr.heap.size wr w2:=(Ac wr _).trans (q.mono (by simp));have d:=hC.below j;have y:=n.below j;obtain⟨L,f1,f2⟩:=(show w2.cell? ⟨wr.heap.size,0,none⟩=some (.string (bs t.s))/\w2.cell? ⟨wr.heap.size,1,none⟩=some (.bool true)/\w2.cell? ⟨wr.heap.size,2,none⟩=some (.int .i64 (t.pl:Nat)) from⟨(z.below q).cell 0,(z.below q).cell 1,(z.below q).cell 2⟩);obtain⟨J,b,M,N,r⟩:=x.out w2 y)
        go_ret
        rw[O.out];exact⟨rfl,u.trans (j.mono u.size)⟩
       ·have q7:((i:Int)==0)=false:=by rw[Az];omega
        cases hng:a.neg
        ·rw[hng]at b4;have Y:Hid ((G6 c (decide (i=0)||false) (a.ts.drop (k+1))).or (FV c false (all.drop (i+1)))=D2 c):=by show _=_;rw[<-P.out,X.out,Af (by simp[U,hng]),hng]
         go_wp2_with (go_at_call 64;refine(KB _ base c _ _ _ _ _ bo bcap (by exact(S.out.below u).below (Ac wr _)) (by omega) (f.out) t.s).mono ?_;rintro e w2 ⟨p,q⟩;rw[hbd]at p;subst p;have j:Below wr.heap.size wr w2:=(Ac wr _).trans (q.mono (by simp));have d:=hC.below j;have y:=n.below j;obtain⟨L,f1,f2⟩:=(show w2.cell? ⟨wr.heap.size,0,none⟩=some (.string (bs t.s))/\w2.cell? ⟨wr.heap.size,1,none⟩=some (.bool true)/\w2.cell? ⟨wr.heap.size,2,none⟩=some (.int .i64 (t.pl:Nat)) from⟨(z.below q).cell 0,(z.below q).cell 1,(z.below q).cell 2⟩);obtain⟨J,b,M,N,r⟩:=x.out w2 y);exact⟨⟨k+1,o,by go_num,Y,d,y,u.trans (j.mono u.size)⟩,by simp[intOf];omega⟩
        ·rw[hng]at b4;have O:=Ao (show D2 c=some t.pl by rw[<-P.out,X.out,Ai (by simp[hvr,hbd,hng])];rfl);go_wp2_with (go_at_call 64;refine(KB _ base c _ _ _ _ _ bo bcap (by exact(S.out.below u).below (Ac wr _)) (by omega) (f.out) t.s).mono ?_;rintro e w2 ⟨p,q⟩;rw[hbd]at p;subst p;have j:Below wr.heap.size wr w2:=(Ac wr _).trans (q.mono (by simp));have d:=hC.below j;have y:=n.below j;obtain⟨L,f1,f2⟩:=(show w2.cell? ⟨wr.heap.size,0,none⟩=some (.string (bs t.s))/\w2.cell? ⟨wr.heap.size,1,none⟩=some (.bool true)/\w2.cell? ⟨wr.heap.size,2,none⟩=some (.int .i64 (t.pl:Nat)) from⟨(z.below q).cell 0,(z.below q).cell 1,(z.below q).cell 2⟩);obtain⟨J,b,M,N,r⟩:=x.out w2 y)
         go_ret
         rw[O.out];exact⟨rfl,u.trans (j.mono u.size)⟩
     ·cases hvr:t.var
      ·rw[hvr]at d1 z;have Y:Hid ((G6 c (decide (i=0)||a.neg) (a.ts.drop (k+1))).or (FV c false (all.drop (i+1)))=D2 c):=by show _=_;rw[<-P.out,X.out,Af (by simp[hvr])]
       go_wp2_with (go_at_call 64;refine(KB _ base c _ _ _ _ _ bo bcap (by exact(S.out.below u).below (Ac wr _)) (by omega) (f.out) t.s).mono ?_;rintro e w2 ⟨p,q⟩;rw[hbd]at p;subst p;have j:Below wr.heap.size wr w2:=(Ac wr _).trans (q.mono (by simp));have d:=hC.below j;have y:=n.below j;obtain⟨L,f1,f2⟩:=(show w2.cell? ⟨wr.heap.size,0,none⟩=some (.string (bs t.s))/\w2.cell? ⟨wr.heap.size,1,none⟩=some (.bool false)/\w2.cell? ⟨wr.heap.size,2,none⟩=some (.int .i64 (t.pl:Nat)) from⟨(z.below q).cell 0,(z.below q).cell 1,(z.below q).cell 2⟩);obtain⟨J,b,M,N,r⟩:=x.out w2 y);exact⟨⟨k+1,o,by go_num,Y,d,y,u.trans (j.mono u.size)⟩,by simp[intOf];omega⟩
      ·rw[hvr]at d1 z;have Y:Hid ((G6 c (decide (i=0)||a.neg) (a.ts.drop (k+1))).or (FV c false (all.drop (i+1)))=D2 c):=by show _=_;rw[<-P.out,X.out,Af (by simp[hbd])]
       go_wp2_with (go_at_call 64;refine(KB _ base c _ _ _ _ _ bo bcap (by exact(S.out.below u).below (Ac wr _)) (by omega) (f.out) t.s).mono ?_;rintro e w2 ⟨p,q⟩;rw[hbd]at p;subst p;have j:Below wr.heap.size wr w2:=(Ac wr _).trans (q.mono (by simp));have d:=hC.below j;have y:=n.below j;obtain⟨L,f1,f2⟩:=(show w2.cell? ⟨wr.heap.size,0,none⟩=some (.string (bs t.s))/\w2.cell? ⟨wr.heap.size,1,none⟩=some (.bool true)/\w2.cell? ⟨wr.heap.size,2,none⟩=some (.int .i64 (t.pl:Nat)) from⟨(z.below q).cell 0,(z.below q).cell 1,(z.below q).cell 2⟩);obtain⟨J,b,M,N,r⟩:=x.out w2 y);exact⟨⟨k+1,o,by go_num,Y,d,y,u.trans (j.mono u.size)⟩,by simp[intOf];omega⟩
    ·have q6:k=a.ts.length:=by omega
     have Y:Hid (FV c (decide (i+1=0)) (all.drop (i+1))=D2 c):=by
      show _=_;rw[<-P.out,q6,AR];unfold G6 Gi;rw[show decide (i+1=0)=false by simp]
      split<;>rfl
     clear q6;go_wp2_with fail;exact⟨⟨i+1,l,by go_num,Y,hC,n,u⟩,by simp[intOf];omega⟩
  ·have q5:i=all.length:=by omega
   have O:=Ao (show D2 c=none by rw[<-HX.out,q5,AR];rfl);clear q5;go_wp2
   go_ret
   rw[O.out];exact⟨rfl,u⟩
theorem Ih(a b:B8):bs a++bs b=bs (a++b):=by apply UE;simp[bs]
theorem Fe(a:B8):(bs a).size=a.length:=rfl
structure RA.Small(a:RA):Prop where
 name:a.name.length<=12
 bp:a.ts.length<=3
 words:∀t∈a.ts,t.s.length<=12
structure RC.Small(c:RC):Prop where
 head:c.head.Small
 bp:c.body.length<=4
 body:∀a∈c.body,a.Small
def UI(i:Nat)(t:RT):B8:=(if i=0 then [40] else [44])++t.s
def IG:Nat->List RT->B8
 |_,[]=>[]
 |i,t::r=>UI i t++IG (i+1) r
theorem W4(i:Nat)(l:List RT)(t:RT):IG i (l++[t])=IG i l++UI (i+l.length) t:=by
 induction l generalizing i with
 |nil=>simp[IG]
 |cons a l q=>simp only[List.cons_append,IG,q,Bm,List.length_cons];rw[show i+1+l.length=i+(l.length+1) by omega]
theorem Sp(i:Nat)(l:List RT)(h:∀t∈l,t.s.length<=12):(IG i l).length<=13*l.length:=by
 induction l generalizing i with
 |nil=>simp[IG]
 |cons a l q=>
  have h1:=h a (by simp);have h2:=q (i+1) (fun t ht=>h t (by simp[ht]));have h3:(UI i a).length=a.s.length+1:=by unfold UI;split<;>simp<;>omega
  simp only[IG,Am,List.length_cons,h3];omega
def RA.front(a:RA):B8:=if a.neg=true then 33::a.name else a.name
def RA.shown(a:RA):B8:=a.front++IG 0 a.ts++(if a.ts.length=0 then [] else [41])
theorem RA.db(a:RA)(h:a.Small):a.front.length<=13:=by
 have:=h.name;unfold RA.front
 split<;>simp<;>omega
theorem RA.au(a:RA)(h:a.Small):a.shown.length<=60:=by
 have h1:=a.db h;have h2:=Sp 0 a.ts h.words;have h3:=h.bp;unfold RA.shown;simp only[Am]
 split<;>simp<;>omega
theorem UN(a:RA)(k:Nat)(q:k<a.ts.length)(m:B8)(z:m=if k=0 then [40] else [44]):bs (a.front++IG 0 (a.ts.take k))++bs m++(a.ts[k]).w=bs (a.front++IG 0 (a.ts.take (k+1))):=by
 have j:(a.ts.take k).length=k:=by simp;omega
 rw[Ad q,W4,j,B7];show bs _++bs m++bs _=_;rw[Ih,Ih,UI,<-z];simp
theorem Xl(a:RA):a.shown=(a.front++IG 0 (a.ts.take a.ts.length))++(if a.ts.length=0 then [] else [41]):=by rw[AL];rfl
theorem Es(w:World)(base:Nat)(a:RA)(s:Option Addr)(q:Nat)(S:w.ownsRow base 130 3 (.slice s a.ts.length q) a.ts.length (a.ts.flatMap RT.cells))(hs:a.Small):
 Calls prog 43 #[.agg #[.string a.w,.slice s a.ts.length q,.int .i64 (a.pl:Nat),.int .i64 (a.af:Nat),.bool a.neg]] w fun e w'=>e=.returned (.string (bs a.shown))/\Below w.heap.size w w':=by
 have q3:=a.db hs;have q2:=hs.bp;have o:=Ao hs.words;have q4:=hs.name;have p:=Aw.new w [.string a.w,.slice s a.ts.length q,.int .i64 (a.pl:Nat),.int .i64 (a.af:Nat),.bool a.neg] 69;have r:=Ac w (.cells #[.string a.w,.slice s a.ts.length q,.int .i64 (a.pl:Nat),.int .i64 (a.af:Nat),.bool a.neg] 69);have P:Hid (a.w=bs a.name):=rfl;have Y:¬9223372036854775807<1+(a.w).size:=by rw[P.out,Fe];omega
 have u:=Ao (show(if a.neg=true then⟨#[33]⟩++a.w else a.w)=bs a.front by
  unfold RA.front
  split
  ·rw[P.out];exact Ih [33] a.name
  ·rfl)
 obtain⟨neg,J⟩:∃neg,Hid (a.neg=neg):=⟨_,rfl⟩;rw[J.out]at p r u⊢;clear hs;cases neg
 all_goals
  go_enter func43,ntmps43;go_wp2_with fail
  go_loopw [3,4] (fun sv R wr=>∃(k:Nat) (b:Bool),k<=a.ts.length/\R=.int .i64 k/\sv=.string (bs (a.front++IG 0 (a.ts.take k)))/\Aw wr w.heap.size [.string a.w,.slice s a.ts.length q,.int .i64 (a.pl:Nat),.int .i64 (a.af:Nat),.bool b] 69/\Below w.heap.size w wr) (fun _ R _=>a.ts.length-(intOf R).toNat)
  case atStart=>exact⟨0,_,by omega,rfl,Bl Value.string (by rw[List.take_zero,IG,BC];exact u.out),p,r⟩
  case round=>
   clear p r u Y;obtain⟨k,b,hk,rfl,rfl,hC,l⟩:=hrel;have c1:wr.cell? ⟨w.heap.size,1,none⟩=some (.slice s a.ts.length q):=hC.cell 1;have q1:=hC.lt;have V:=Sp 0 (a.ts.take k) (fun t ht=>o.out t (Dy ht));have n:(a.ts.take k).length=k:=by simp;omega
   rw[n]at V;have Q:(a.front++IG 0 (a.ts.take k)).length<=52:=by rw[Am];omega
   by_cases j:k<a.ts.length
   ·obtain⟨g,rfl,hg,d0,M,N⟩:=FM (Ah S l) k j;have U:=o.out a.ts[k] (Aj j);have f:=Ao (fun m E=>UN a k j m E);have q5:(a.ts[k]).w.size<=12:=U;generalize (a.ts[k]).w=tw at*;obtain⟨X,i⟩:∃X,Hid (X=a.front++IG 0 (a.ts.take k)):=⟨_,rfl⟩;rw[<-i.out]at f Q⊢;have Z:¬9223372036854775807<(bs X).size+1:=by rw[Fe];omega
    have q0:¬9223372036854775807<(bs X).size+1+tw.size:=by rw[Fe];omega
    clear V n i M N;by_cases y:k=0
    ·have d:=Ao (f.out [40] (by rw[Ai y]));have v:(k:Int)=0:=by omega
     have K:((k:Int)==0)=true:=by rw[v];rfl
     clear f y v;go_wp2_with fail;exact⟨⟨k+1,b,j,by go_num,Bl Value.string d.out,hC,l⟩,by simp[intOf];omega⟩
    ·have d:=Ao (f.out [44] (by rw[Af y]));have v:¬(k:Int)=0:=by omega
     have K:((k:Int)==0)=false:=by simpa using v
     clear f y;go_wp2_with fail;exact⟨⟨k+1,b,j,by go_num,Bl Value.string d.out,hC,l⟩,by simp[intOf];omega⟩
   ·have c:k=a.ts.length:=by omega
    have x:=Ao (Xl a);rw[<-c]at x;obtain⟨X,i⟩:∃X,Hid (X=a.front++IG 0 (a.ts.take k)):=⟨_,rfl⟩;rw[<-i.out]at Q x⊢;have Z:¬9223372036854775807<(bs X).size+1:=by rw[Fe];omega
    clear V n i;by_cases C:a.ts.length=0
    ·have d:=Ao (show a.shown=X by rw[x.out,Ai (by omega),BC]);have G:¬(0:Int)<(a.ts.length:Int):=by omega
     have B:¬0<a.ts.length:=by omega
     clear c x C;go_wp2_with fail
     go_ret
     rw[d.out];exact⟨rfl,l⟩
    ·have d:=Ao (show bs X++⟨#[41]⟩=bs a.shown by rw[x.out,Af (by omega)];exact Ih X [41]);have G:(0:Int)<(a.ts.length:Int):=by omega
     have B:0<a.ts.length:=by omega
     clear c x C;go_wp2_with fail
     go_ret
     exact⟨Bl (fun z=>Ending.returned (Value.string z)) d.out,l⟩
def VU(i:Nat)(a:RA):B8:=(if i=0 then [58,45] else [44])++a.shown
def I8:Nat->List RA->B8
 |_,[]=>[]
 |i,a::r=>VU i a++I8 (i+1) r
theorem Yx(i:Nat)(l:List RA)(t:RA):I8 i (l++[t])=I8 i l++VU (i+l.length) t:=by
 induction l generalizing i with
 |nil=>simp[I8]
 |cons a l q=>simp only[List.cons_append,I8,q,Bm,List.length_cons];rw[show i+1+l.length=i+(l.length+1) by omega]
theorem T7(i:Nat)(l:List RA)(h:∀t∈l,t.Small):(I8 i l).length<=62*l.length:=by
 induction l generalizing i with
 |nil=>simp[I8]
 |cons a l q=>
  have h1:=a.au (h a (by simp));have h2:=q (i+1) (fun t ht=>h t (by simp[ht]));have h3:(VU i a).length<=a.shown.length+2:=by unfold VU;split<;>simp<;>omega
  simp only[I8,Am,List.length_cons];omega
def RC.shown(c:RC):B8:=c.head.shown++I8 0 c.body++[46]
theorem RC.au(c:RC)(h:c.Small):c.shown.length<=320:=by have h1:=c.head.au h.head;have h2:=T7 0 c.body h.body;have h3:=h.bp;unfold RC.shown;simp only[Am,List.length_cons,List.length_nil];omega
theorem TS(c:RC)(k:Nat)(q:k<c.body.length)(m:B8)(z:m=if k=0 then [58,45] else [44]):bs (c.head.shown++I8 0 (c.body.take k))++bs m++bs (c.body[k]).shown=bs (c.head.shown++I8 0 (c.body.take (k+1))):=by
 have j:(c.body.take k).length=k:=by simp;omega
 rw[Ad q,Yx,j,B7,Ih,Ih,VU,<-z];simp
theorem Hy(w:World)(base:Nat)(c:RC)(s:Option Addr)(q:Nat)(bo:Option Addr)(bcap:Nat)(M:w.ownsRow base 130 3 (.slice s c.head.ts.length q) c.head.ts.length (c.head.ts.flatMap RT.cells))(hR:EN w base (.slice bo c.body.length bcap) c.body)(hs:c.Small):
 Calls prog 36 #[.agg #[.string c.head.w,.slice s c.head.ts.length q,.int .i64 (c.head.pl:Nat),.int .i64 (c.head.af:Nat),.bool c.head.neg,.slice bo c.body.length bcap]] w fun e w'=>e=.returned (.string (bs c.shown))/\Below w.heap.size w w':=by
 have Q:=Aw.new w [.string c.head.w,.slice s c.head.ts.length q,.int .i64 (c.head.pl:Nat),.int .i64 (c.head.af:Nat),.bool c.head.neg,.slice bo c.body.length bcap] 71;have v:=Ac w (.cells #[.string c.head.w,.slice s c.head.ts.length q,.int .i64 (c.head.pl:Nat),.int .i64 (c.head.af:Nat),.bool c.head.neg,.slice bo c.body.length bcap] 71);have Z:=Ah M v;have q6:=c.head.au hs.head;have q5:=hs.bp;have o:=Ao hs.body;go_enter func36,ntmps36;go_wp2_with (go_at_call 43;refine(Es _ base c.head s q (by exact Z) hs.head).mono ?_;rintro e w1 ⟨rfl,j⟩);have U:=v.size;have J:=v.trans (j.mono U)
 go_loopw [3,4] (fun sv P wr=>∃(k:Nat),k<=c.body.length/\P=.int .i64 k/\sv=.string (bs (c.head.shown++I8 0 (c.body.take k)))/\Aw wr w.heap.size [.string c.head.w,.slice s c.head.ts.length q,.int .i64 (c.head.pl:Nat),.int .i64 (c.head.af:Nat),.bool c.head.neg,.slice bo c.body.length bcap] 71/\Below w.heap.size w wr) (fun _ P _=>c.body.length-(intOf P).toNat)
 case atStart=>exact⟨0,by omega,rfl,by rw[List.take_zero,I8,BC],Q.below j,J⟩
 case round=>
  clear Q v Z j U J;obtain⟨k,hk,rfl,rfl,hC,l⟩:=hrel;have c5:wr.cell? ⟨w.heap.size,5,none⟩=some (.slice bo c.body.length bcap):=hC.cell 5;have q4:=hC.lt;have V:=l.size;have R:=T7 0 (c.body.take k) (fun t ht=>o.out t (Dy ht));have p:(c.body.take k).length=k:=by simp;omega
  rw[p]at R;have Y:(c.head.shown++I8 0 (c.body.take k)).length<=310:=by rw[Am];omega
  by_cases y:k<c.body.length
  ·obtain⟨g,tv,rfl,hg,b0,b1,b2,b3,b4,r⟩:=H4 (hR.below l) rfl k y;have n:=o.out c.body[k] (Aj y);have f:=Ao (fun m N=>TS c k y m N);generalize c.body[k]=a at*;obtain⟨C,d,rfl⟩:=Au r;have q3:=a.au n;obtain⟨X,i⟩:∃X,Hid (X=c.head.shown++I8 0 (c.body.take k)):=⟨_,rfl⟩;rw[<-i.out]at f Y⊢;have G:¬9223372036854775807<(bs X).size+1:=by rw[Fe];omega
   have q0:¬9223372036854775807<(bs X).size+2:=by rw[Fe];omega
   have q1:¬9223372036854775807<(bs X).size+1+(bs a.shown).size:=by rw[Fe,Fe];omega
   have q2:¬9223372036854775807<(bs X).size+2+(bs a.shown).size:=by rw[Fe,Fe];omega
   clear R p i;by_cases u:k=0
   ·have x:=Ao (f.out [58,45] (by rw[Ai u]));have b:(k:Int)=0:=by omega
    have B:((k:Int)==0)=true:=by rw[b];rfl
    clear f u b;go_wp2_with (go_at_call 43;refine(Es _ base a C d (by exact r) n).mono ?_;rintro e w1 ⟨rfl,j⟩);exact⟨⟨k+1,y,by go_num,Bl Value.string x.out,hC.below j,l.trans (j.mono V)⟩,by simp[intOf];omega⟩
   ·have x:=Ao (f.out [44] (by rw[Af u]));have b:¬(k:Int)=0:=by omega
    have B:((k:Int)==0)=false:=by simpa using b
    clear f u;go_wp2_with (go_at_call 43;refine(Es _ base a C d (by exact r) n).mono ?_;rintro e w1 ⟨rfl,j⟩);exact⟨⟨k+1,y,by go_num,Bl Value.string x.out,hC.below j,l.trans (j.mono V)⟩,by simp[intOf];omega⟩
  ·have K:k=c.body.length:=by omega
   have x:=Ao (show bs (c.head.shown++I8 0 (c.body.take k))++⟨#[46]⟩=bs c.shown by rw[K,AL];exact Ih _ [46]);obtain⟨X,i⟩:∃X,Hid (X=c.head.shown++I8 0 (c.body.take k)):=⟨_,rfl⟩;rw[<-i.out]at Y x⊢;have G:¬9223372036854775807<(bs X).size+1:=by rw[Fe];omega
   clear R p i K;go_wp2_with fail
   go_ret
   exact⟨Bl (fun z=>Ending.returned (Value.string z)) x.out,l⟩
def Gf(xs:List B8)(k:B8):Int:=if k∈xs then(xs.idxOf k:Nat) else-1
theorem aF(xs:List B8)(k:B8)(i:Nat)(q:i<xs.length)(hn:k∉xs.take i)(hx:xs[i]=k):Gf xs k=(i:Nat):=by
 have j:k∈xs:=hx▸Aj q;unfold Gf;rw[Ai j];have e:xs=xs.take i++k::xs.drop (i+1):=by have:=Je i xs;rw[Aa q,hx]at this;exact this.symm
 have h2:xs.idxOf k=i:=by rw[e,Ec,Af hn,List.idxOf_cons_self,Dz];omega
 rw[h2]
theorem Iy(w:World)(base:Nat)(ao:Option Addr)(cap:Nat)(xs:List B8)(p:w.ownsRow base 9 1 (.slice ao xs.length cap) xs.length (xs.map fun x=>.string (bs x)))(hn:xs.length<=100000)(k:B8):
 Calls prog 47 #[.slice ao xs.length cap,.string (bs k)] w fun e w'=>e=.returned (.int .i64 (Gf xs k))/\w'=w:=by
 go_enter func47,ntmps47;go_wp2
 go_loopw [5] (fun d wr=>∃(i:Nat),i<=xs.length/\d=.int .i64 i/\Hid (k∉xs.take i)/\wr=w) (fun d _=>xs.length-(intOf d).toNat)
 case atStart=>exact⟨0,by omega,rfl,by show _∉_;simp,rfl⟩
 case round=>
  obtain⟨i,hi,rfl,u,rfl⟩:=hrel;by_cases q:i<xs.length
  ·obtain⟨g,rfl,t⟩:=DO p i q;have q0:wr.cell? ⟨g,i,none⟩=some (.string (bs xs[i])):=by rw[t];simp[q]
   have HD:Hid (∀(_:xs[i]≠k),k∉xs.take (i+1)):=by
    intro b j;rw[Ad q,Bi,A7]at j;rcases j with j|j
    ·exact u.out j
    ·exact b j.symm
   have v:Hid (∀(_:xs[i]=k),Gf xs k=(i:Nat)):=fun h=>aF xs k i q u.out h;have hq:=D4 xs[i] k;clear t;generalize xs[i]=x at*;cases hd:decide (x=k)
   ·rw[hd]at hq;have r:=Ao (HD.out (by simpa using hd));clear HD v hd;go_wp2;exact⟨⟨i+1,q,by go_num,r,trivial⟩,by simp[intOf];omega⟩
   ·rw[hd]at hq;have y:=Ao (v.out (by simpa using hd));clear HD v hd;go_wp2
    go_ret
    rw[y.out];exact⟨rfl,rfl⟩
  ·have z:i=xs.length:=by omega
   have y:=Ao (show Gf xs k= -1 by
    have:=u.out;rw[z,AL]at this;unfold Gf
    rw[Af this])
   clear z;go_wp2
   go_ret
   rw[y.out];exact⟨rfl,rfl⟩
def CZ(l:List RA):List B8:=l.foldl (fun xs a=>DT xs a.name) []
theorem S9(l:List RA)(i:Nat)(h:i<l.length):CZ (l.take (i+1))=DT (CZ (l.take i)) l[i].name:=by unfold CZ;rw[Ad h,Dd];rfl
theorem K2(l:List RA):(CZ l).length<=l.length:=by
 have q:∀(l:List RA) (xs:List B8),(l.foldl (fun xs a=>DT xs a.name) xs).length<=xs.length+l.length:=by
  intro l
  induction l with
  |nil=>intro xs;simp
  |cons a r j=>intro xs;have h1:=j (DT xs a.name);have h2:=Kf xs a.name;simp only[List.foldl_cons,List.length_cons];omega
 simpa[CZ]using q l []
theorem WA(w:World)(base:Nat)(ao:Option Addr)(cap:Nat)(l:List RC)(B:Ck w base (.slice ao l.length cap) l)(hn:l.length<=40)(hb:∀c∈l,c.body.length<=4):
 Calls prog 46 #[.slice ao l.length cap] w fun e w'=>∃v,e=.returned v/\w'.ownsRow w.heap.size 9 1 v (CZ (A2 l)).length ((CZ (A2 l)).map fun x=>.string (bs x))/\Below w.heap.size w w':=by
 obtain⟨M,o,Z,Y,K⟩:=Bc Hk;have d:=Ao (LP w base ao cap l B hn hb);have p:=GA l hb;obtain⟨all,b⟩:∃all,Hid (all=A2 l):=⟨_,rfl⟩;rw[<-b.out]at d p⊢;clear b B;go_enter func46,ntmps46;go_wp2_with fail;refine(d.out).mono ?_;rintro e w1 ⟨v,rfl,G,U⟩;obtain⟨oo,q1,rfl⟩:=G.form;have m:=U.size;go_wp2_with fail
 go_loopw [3,5] (fun ov V wr=>∃(i:Nat),i<=all.length/\V=.int .i64 i/\wr.ownsRow w1.heap.size 9 1 ov (CZ (all.take i)).length ((CZ (all.take i)).map fun x=>.string (bs x))/\Below w1.heap.size w1 wr) (fun _ V _=>all.length-(intOf V).toNat)
 case atStart=>exact⟨0,by omega,rfl,Ak _ _ _ _,Ag _ _⟩
 case round=>
  obtain⟨i,hi,rfl,y,q⟩:=hrel;have q2:=K2 (all.take i);have q3:(all.take i).length<=200:=by simp;omega
  obtain⟨so,scap,rfl⟩:=Au y;by_cases z:i<all.length
  ·obtain⟨g,tv,rfl,hg,b0,b1,b2,b3,b4,hT⟩:=Gw (G.below q) rfl i z;have j:=Ao (S9 all i z);have C:Hid (all[i].w=bs all[i].name):=rfl;rw[C.out]at b0;generalize all[i].name=nm at*;generalize CZ (all.take i)=xs at*;cases k:BZ xs nm
   ·have s:=Ao (show CZ (all.take (i+1))=xs++[nm] by rw[j.out];unfold DT;rw[k];rfl);have n:=Ao k;clear j k;go_wp2_with (first|(go_at_call 34;refine(Om _ w1.heap.size so scap xs (by exact y) (by omega) nm).mono ?_;rintro e w2 ⟨t,J⟩;subst w2;rw[n.out]at t;subst t)|(at_builtin;refine AF _ rfl _ _ 31 rfl w1.heap.size 9 M _ 1 16 underlying31 o Z Y K rfl (by decide) _ xs.length _ rfl (by exact y.alloc _) ⟨wr.heap.size,0,none⟩ 1 [.string (bs nm)] rfl rfl (AS _ _ _) (by intro u R;simp at R;subst R;rfl) (by unfold maxLen;omega) (by omega) (by have:=q.size;simp;omega) ?_;intro g2 q0 w3 Q a));have f:Below w1.heap.size w1 w3:=(q.alloc (q.size) _).grown a (by have:=q.size;simp;omega) (A9 y);exact⟨⟨i+1,z,by go_num,by rw[s.out,Am,A8];exact Q,f⟩,by simp[intOf];omega⟩
   ·have s:=Ao (show CZ (all.take (i+1))=xs by rw[j.out];unfold DT;rw[k];rfl);have n:=Ao k;clear j k;go_wp2_with (go_at_call 34;refine(Om _ w1.heap.size so scap xs (by exact y) (by omega) nm).mono ?_;rintro e w2 ⟨t,J⟩;subst w2;rw[n.out]at t;subst t);exact⟨⟨i+1,z,by go_num,by rw[s.out];exact y,q⟩,by simp[intOf];omega⟩
  ·have r:i=all.length:=by omega
   have P:=Ao (show CZ (all.take i)=CZ all by rw[r,AL]);clear r;go_wp2_with fail
   go_ret
   rw[<-P.out];exact⟨_,rfl,BS y m,U.trans (q.mono m)⟩
end
end Go.Proofs.YtpbfiffgcgnidaaGreatDoor
