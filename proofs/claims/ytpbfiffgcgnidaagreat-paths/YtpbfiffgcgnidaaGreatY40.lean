import Derived.Test.YtpbfiffgcgnidaaGreatYal
import Derived.KernelRfl
import Derived.Test.YtpbfiffgcgnidaaGreatY15
import Derived.Test.YtpbfiffgcgnidaaGreatY39
namespace Go.Proofs.YtpbfiffgcgnidaaGreat
set_option maxRecDepth 100000
set_option maxHeartbeats 4000000
set_option linter.unusedSimpArgs false
section
def s0:ByteArray:=⟨#[]⟩
def DO.core(r:DO):Bool×B8×List B8×B8:=(r.ok,r.name,r.ts,r.rest)
theorem KC(s s':ByteArray)(n:B8)(np np' f:Nat)(ts:List B8)(ps ps':List Nat)(l:B8):(BO s n np f ts ps l).core=(BO s' n np' f ts ps' l).core:=by
 induction f generalizing ts ps ps' l with
 |zero=>rfl
 |succ f ih=>
  unfold BO
  split
  ·rfl
  ·split
   ·rfl
   ·split
    ·rfl
    ·exact ih _ _ _ _
theorem D7(s s':ByteArray)(l:B8):(Ar s l).core=(Ar s' l).core:=by
 unfold Ar;simp only[]
 split
 ·rfl
 ·split
  ·rfl
  ·exact KC _ _ _ _ _ _ _ _ _ _
theorem GU(s s':ByteArray)(l:B8):(Ar s l).ok=(Ar s' l).ok:=congrArg (fun c=>c.1) (D7 s s' l)
theorem EZ(s s':ByteArray)(l:B8):(Ar s l).name=(Ar s' l).name:=congrArg (fun c=>c.2.1) (D7 s s' l)
theorem GS(s s':ByteArray)(l:B8):(Ar s l).ts=(Ar s' l).ts:=congrArg (fun c=>c.2.2.1) (D7 s s' l)
theorem EY(s s':ByteArray)(l:B8):(Ar s l).rest=(Ar s' l).rest:=congrArg (fun c=>c.2.2.2) (D7 s s' l)
theorem NQ(s s':ByteArray)(l:B8):D4 s l=D4 s' l:=by unfold D4 A0;rw[EZ s s',GS s s']
def L8.core(r:L8):Bool×List AG×Nat×B8:=(r.ok,r.lits,r.spots.length,r.rest)
theorem J9(s s':ByteArray)(f:Nat)(ls:List AG)(ps ps':List Bo)(l:B8)(h:ps.length=ps'.length):(CG s f ls ps l).core=(CG s' f ls ps' l).core:=by
 induction f generalizing ls ps ps' l with
 |zero=>simp[CG,L8.core,h]
 |succ f ih=>
  unfold CG;rw[NQ s s'];unfold A0;rw[GU s s',EY s s']
  split
  ·simp[L8.core,h]
  ·split
   ·simp[L8.core,h]
   ·split
    ·simp[L8.core,h]
    ·exact ih _ _ _ _ (by simp[h])
theorem KB(s s':ByteArray)(ps ps':List Bo)(l:B8)(h:ps.length=ps'.length):(Bj s ps l).core=(Bj s' ps' l).core:=by
 unfold Bj
 split
 ·simp[L8.core,h]
 ·exact J9 _ _ _ _ _ _ _ h
def Ap.core(d:Ap):B8×List B8×List AG×Nat:=(d.name,d.ts,d.lits,d.spots.length)
def Nv.core(r:Nv):Bool×(B8×List B8×List AG×Nat)×B8:=(r.ok,r.d.core,r.rest)
theorem Iz(s s':ByteArray)(l:B8):(AN s l).core=(AN s' l).core:=by
 have hb:=KB s s' [AT s l] [AT s' l] (Av (Ar s' l).rest 58) rfl;unfold AN;rw[GU s s',EY s s',EZ s s',GS s s'];simp only[L8.core,Prod.mk.injEq]at hb;obtain⟨b1,b2,b3,b4⟩:=hb;rw[b1,b2,b4]
 split
 ·rfl
 ·split
  ·rfl
  ·split
   ·rfl
   ·simp[Nv.core,Nv.d,Ap.core,b3]
theorem JZ(s s':ByteArray)(f:Nat)(ds ds':List Ap)(l:B8)(h:ds.map Ap.core=ds'.map Ap.core):
 (A6 s f ds l).ok=(A6 s' f ds' l).ok/\(A6 s f ds l).rest=(A6 s' f ds' l).rest/\(A6 s f ds l).cls.map Ap.core=(A6 s' f ds' l).cls.map Ap.core:=by
 induction f generalizing ds ds' l with
 |zero=>unfold A6;split<;>exact⟨rfl,rfl,h⟩
 |succ f ih=>
  have hc:=Iz s s' (Ao l);simp only[Nv.core,Prod.mk.injEq]at hc;obtain⟨c1,c2,c3⟩:=hc;unfold A6;rw[c1,c3]
  split
  ·exact⟨rfl,rfl,h⟩
  ·split
   ·exact⟨rfl,rfl,h⟩
   ·exact ih _ _ _ (by simp[h,c2])
theorem KG{A B C:Type}(f:A->C)(a:List A)(b:List B):(a.zip b).map (fun x=>f x.1)=(a.take b.length).map f:=by
 induction a generalizing b with
 |nil=>simp
 |cons x a ih=>cases b with
  |nil=>simp
  |cons y b=>simp[ih]
def Db:List B8->List Nat->List (B8×Nat)->Bool
 |_,_,[]=>true
 |xs,ns,(k,n)::r=>if Ca xs k=true then(if ns.getD (BM xs k) 0=n then Db xs ns r else false) else Db (xs++[k]) (ns++[n]) r
theorem ID(xs:List B8)(ns:List Nat)(it:List (B8×Nat×Nat)):(B9 xs ns it).isNone=Db xs ns (it.map fun x=>(x.1,x.2.1)):=by
 induction it generalizing xs ns with
 |nil=>rfl
 |cons x it ih=>
  obtain⟨k,n,p⟩:=x;simp only[B9,Db,List.map_cons]
  split
  ·split
   ·exact ih _ _
   ·rfl
  ·exact ih _ _
def CS(c:B8×List B8×List AG×Nat):List (B8×Nat):=
 (((c.1,c.2.1)::c.2.2.1.map fun l=>(l.name,l.ts)).take c.2.2.2).map fun a=>(a.1,a.2.length)
theorem Kh(d:Ap):(d.items.map fun x=>(x.1,x.2.1))=CS d.core:=by unfold Ap.items CS;rw[List.map_map];exact KG (fun a=>(a.1,a.2.length)) d.atoms d.spots
theorem JA(ds:List Ap):(Cu ds).isNone=Db [] [] ((ds.map Ap.core).flatMap CS):=by
 unfold Cu;rw[ID,List.map_flatMap,List.flatMap_map];congr 1;congr 1
 funext d
 exact Kh d
def IV(safe:List B8)(ts:List B8):Bool:=ts.all fun t=> !(AK t&& !Ca safe t)
theorem H5(safe:List B8)(ps:List Nat)(k:Nat)(ts:List B8):(CC safe ps k ts).isNone=IV safe ts:=by
 induction ts generalizing k with
 |nil=>rfl
 |cons t r ih=>
  simp only[CC];cases hb:(AK t&& !Ca safe t)
  ·rw[if_neg (by simp),ih];simp only[IV,List.all_cons,hb];rfl
  ·rw[if_pos rfl];simp only[IV,List.all_cons,hb];rfl
theorem Ih{A:Type}(a b:Option A):(a.or b).isNone=(a.isNone&&b.isNone):=by cases a<;>simp
theorem H6(safe:List B8)(z:List ((B8×List B8)×Bo)):(Cp safe z).isNone=(z.map fun x=>x.1.2).all (IV safe):=by
 induction z with
 |nil=>rfl
 |cons x z ih=>obtain⟨a,sp⟩:=x;simp only[Cp,Ih,H5,ih,List.map_cons,List.all_cons]
def Et(c:B8×List B8×List AG×Nat):Bool:=
 ((((c.1,c.2.1)::c.2.2.1.map fun l=>(l.name,l.ts)).take c.2.2.2).map fun a=>a.2).all (IV (Mt c.2.2.1))
theorem J6(ds:List Ap):(BV ds).isNone=(ds.map Ap.core).all Et:=by
 induction ds with
 |nil=>rfl
 |cons d r ih=>simp only[BV,Ih,H6,ih,List.map_cons,List.all_cons];congr 1;rw[KG (fun a:B8×List B8=>a.2)];rfl
theorem G9(ds ds':List Ap)(h:ds.map Ap.core=ds'.map Ap.core):A9 ds=A9 ds':=by
 have key:∀(ds:List Ap) nm xs,A9 ds nm xs=(ds.map Ap.core).foldl (fun xs c=>if c.1=nm then Bx xs c.2.2.1 else xs) xs:=by intro ds nm xs;rw[List.foldl_map];rfl
 funext nm xs
 rw[key,key,h]
theorem Ha(ds ds':List Ap)(h:ds.map Ap.core=ds'.map Ap.core):BU ds=BU ds':=by
 have key:∀(ds:List Ap) nm,BU ds nm=nm::(ds.map Ap.core).flatMap (fun c=>c.2.2.1.map fun l=>l.name):=by intro ds nm;rw[List.flatMap_map];rfl
 funext nm
 rw[key,key,h]
theorem I3(ds ds':List Ap)(h:ds.map Ap.core=ds'.map Ap.core):B5 ds=B5 ds':=by
 have hg:∀f i xs,C9 ds f i xs=C9 ds' f i xs:=by
  intro f
  induction f with
  |zero=>intro i xs;rfl
  |succ f ih=>intro i xs;unfold C9;rw[G9 ds ds' h];split<;>simp[ih]
 funext nm
 unfold B5;rw[Ha ds ds' h];exact hg _ _ _
def NR(N:B8->List B8)(c:B8×List B8×List AG×Nat):Bool:=c.2.2.1.all fun l=> !(l.neg&&Ca (N l.name) c.1)
theorem Ik(ds:List Ap)(d:Ap)(i:Nat)(ls:List AG):(Cr ds d i ls).isNone=ls.all fun l=> !(l.neg&&Ca (B5 ds l.name) d.name):=by
 induction ls generalizing i with
 |nil=>rfl
 |cons l r ih=>
  simp only[Cr];cases hb:(l.neg&&Ca (B5 ds l.name) d.name)
  ·rw[if_neg (by simp),ih];simp only[List.all_cons,hb];rfl
  ·rw[if_pos rfl];simp only[List.all_cons,hb];rfl
theorem Kf(ds xs:List Ap):(Ed ds xs).isNone=(xs.map Ap.core).all (NR (B5 ds)):=by
 induction xs with
 |nil=>rfl
 |cons d r ih=>simp only[Ed,Ih,Ik,ih,List.map_cons,List.all_cons];rfl
def sound(ds:List Ap):Bool:=(Db [] [] ((ds.map Ap.core).flatMap CS)&&(ds.map Ap.core).all Et)&&(ds.map Ap.core).all (NR (B5 ds))
theorem JR(ds ds':List Ap)(h:ds.map Ap.core=ds'.map Ap.core):sound ds=sound ds':=by unfold sound;rw[h,I3 ds ds' h]
theorem It(ds:List Ap)(h:sound ds=true):BI ds=(0,0):=by unfold sound at h;simp only[Bool.and_eq_true]at h;obtain⟨⟨h1,h2⟩,h3⟩:=h;rw[<-JA]at h1;rw[<-J6]at h2;rw[<-Kf]at h3;unfold BI Cq;rw[Option.isNone_iff_eq_none]at h1 h2 h3;rw[h1,h2,h3]
def AH:B8:=[101,100,103,101]
def BC(p:Nat×Nat):Ap:=⟨AH,[Ad p.1,Ad p.2],[],[⟨0,0,[0,0]⟩]⟩
def CK(ps:List (Nat×Nat)):Prop:=∀p∈ps,p.1<4/\p.2<4
theorem CK.tail{p:Nat×Nat}{ps:List (Nat×Nat)}(h:CK (p::ps)):CK ps:=fun x hx=>h x (by simp[hx])
theorem Dz{P:Nat->Nat->Prop}(h:P 0 0/\P 0 1/\P 0 2/\P 0 3/\P 1 0/\P 1 1/\P 1 2/\P 1 3/\P 2 0/\P 2 1/\P 2 2/\P 2 3/\P 3 0/\P 3 1/\P 3 2/\P 3 3)(i k:Nat)(hi:i<4)(hk:k<4):P i k:=by
 have h1:i=0\/i=1\/i=2\/i=3:=by omega
 have h2:k=0\/k=1\/k=2\/k=3:=by omega
 obtain⟨a,b,c,d,e,f,g,j,l,m,n,o,p,q,r,s⟩:=h;rcases h1 with rfl|rfl|rfl|rfl<;>rcases h2 with rfl|rfl|rfl|rfl<;>assumption
theorem Jq(rest:B8)(i k:Nat)(hi:i<4)(hk:k<4):(AN s0 (DE i k++46::rest)).core=(true,(BC (i,k)).core,rest):=
 Dz (P:=fun i k=>(AN s0 (DE i k++46::rest)).core=(true,(BC (i,k)).core,rest)) (by refine⟨?_,?_,?_,?_,?_,?_,?_,?_,?_,?_,?_,?_,?_,?_,?_,?_⟩<;>kernel_rfl) i k hi hk
theorem JY(s:ByteArray)(f:Nat)(ds:List Ap)(c:UInt8)(l:B8)(h:DH (c.toNat:Int)=true):A6 s f ds (c::l)=A6 s f ds l:=by
 have:Ao (c::l)=Ao l:=by simp[Ao,h]
 cases f<;>simp[A6,this]
def BR(sep:UInt8)(ps:List (Nat×Nat)):B8:=ps.flatMap fun p=>DE p.1 p.2++[46,sep]
theorem JX(sep:UInt8)(hs:DH (sep.toNat:Int)=true)(ps:List (Nat×Nat))(hp:CK ps)(f:Nat)(ds:List Ap)(l:B8):
 ∃ds',ds'.map Ap.core=ds.map Ap.core++(ps.map BC).map Ap.core/\A6 s0 (f+ps.length) ds (BR sep ps++l)=A6 s0 f ds' l:=by
 induction ps generalizing ds with
 |nil=>exact⟨ds,by simp,rfl⟩
 |cons p ps ih=>
  obtain⟨i,k⟩:=p;have hik:=hp (i,k) (by simp);have e1:BR sep ((i,k)::ps)++l=DE i k++46::(sep::(BR sep ps++l)):=by simp[BR]
  have hc:=Jq (sep::(BR sep ps++l)) i k hik.1 hik.2;simp only[Nv.core,Prod.mk.injEq]at hc;obtain⟨c1,c2,c3⟩:=hc;have hk:Ao (DE i k++46::(sep::(BR sep ps++l)))=DE i k++46::(sep::(BR sep ps++l)):=rfl;obtain⟨ds',h1,h2⟩:=ih hp.tail (ds++[(AN s0 (DE i k++46::(sep::(BR sep ps++l)))).d]);refine⟨ds',?_,?_⟩
  ·rw[h1];simp[c2]
  ·rw[e1,List.length_cons,show f+(ps.length+1)=(f+ps.length)+1 by omega];rw[A6,hk,if_neg (by simp[DE]),c1,if_neg (by simp),c3,JY _ _ _ _ _ hs,h2]
theorem Mr(s:ByteArray)(f:Nat)(ds e:List Ap)(l:B8):A6 s f (ds++e) l=⟨(A6 s f e l).ok,ds++(A6 s f e l).cls,(A6 s f e l).rest⟩:=by
 induction f generalizing e l with
 |zero=>unfold A6;split<;>rfl
 |succ f ih=>
  unfold A6
  split
  ·rfl
  ·split
   ·rfl
   ·rw[List.append_assoc];exact ih _ _
theorem Lf(s:ByteArray)(f g:Nat)(e:List Ap)(l:B8)(h:(A6 s f e l).ok=true):A6 s (f+g) e l=A6 s f e l:=by
 induction f generalizing e l with
 |zero=>
  cases g with
  |zero=>rfl
  |succ g=>
   unfold A6 at h
   split at h
   ·rename_i h1;rw[Nat.zero_add];unfold A6;rw[if_pos h1,if_pos h1]
   ·simp at h
 |succ f ih=>
  rw[show f+1+g=(f+g)+1 by omega];unfold A6 at h⊢
  split
  ·rfl
  ·rename_i h1;rw[if_neg h1]at h
   split
   ·rfl
   ·rename_i h2;rw[if_neg h2]at h;exact ih _ _ h
def Ru(v:Nat):List Ap:=(A6 s0 24 [] (CO v)).cls
theorem four{P:Nat->Prop}(h:P 0/\P 1/\P 2/\P 3)(v:Nat)(hv:v<4):P v:=by
 have h1:v=0\/v=1\/v=2\/v=3:=by omega
 obtain⟨a,b,c,d⟩:=h;rcases h1 with rfl|rfl|rfl|rfl<;>assumption
theorem Pz(v:Nat)(hv:v<4):(A6 s0 24 [] (CO v)).ok=true:=four (P:=fun v=>(A6 s0 24 [] (CO v)).ok=true) (by refine⟨?_,?_,?_,?_⟩<;>kernel_rfl) v hv
def Ib(R:List Ap):Bool:=(Db [] [] ((R.map Ap.core).flatMap CS)&&Db [AH] [2] ((R.map Ap.core).flatMap CS))&&((R.map Ap.core).all Et&&(R.map Ap.core).all (NR (B5 R)))
theorem Ns(v:Nat)(hv:v<4):Ib (Ru v)=true:=four (P:=fun v=>Ib (Ru v)=true) (by decide+kernel) v hv
theorem IC(n:Nat)(r:List (B8×Nat)):Db [AH] [2] (List.replicate n (AH,2)++r)=Db [AH] [2] r:=by
 induction n with
 |zero=>rfl
 |succ n ih=>rw[List.replicate_succ,List.cons_append,Db,if_pos (by decide),if_pos (by decide),ih]
theorem Jo(ps:List (Nat×Nat)):((ps.map BC).map Ap.core).flatMap CS=List.replicate ps.length (AH,2):=by
 induction ps with
 |nil=>rfl
 |cons p ps ih=>simp only[List.map_cons,List.flatMap_cons,ih,List.length_cons,List.replicate_succ];rfl
theorem Kr(ps:List (Nat×Nat))(h:CK ps):((ps.map BC).map Ap.core).all Et=true:=by
 induction ps with
 |nil=>rfl
 |cons p ps ih=>have hp:=h p (by simp);rw[List.map_cons,List.map_cons,List.all_cons,ih h.tail,Bool.and_true];exact Dz (P:=fun i k=>Et (BC (i,k)).core=true) (by decide+kernel) p.1 p.2 hp.1 hp.2
theorem Lz(N:B8->List B8)(ps:List (Nat×Nat)):((ps.map BC).map Ap.core).all (NR N)=true:=by
 induction ps with
 |nil=>rfl
 |cons p ps ih=>rw[List.map_cons,List.map_cons,List.all_cons,ih];rfl
theorem Jn(ps:List (Nat×Nat))(R:List Ap):B5 (ps.map BC++R)=B5 R:=by
 have h1:A9 (ps.map BC++R)=A9 R:=by
  funext nm xs
  unfold A9;rw[List.foldl_append];congr 1
  induction ps generalizing xs with
  |nil=>rfl
  |cons p ps ih=>rw[List.map_cons,List.foldl_cons,show(if(BC p).name=nm then Bx xs (BC p).lits else xs)=xs by split<;>rfl];exact ih xs
 have h2:BU (ps.map BC++R)=BU R:=by
  funext nm
  have e:∀ps:List (Nat×Nat),(ps.map BC).flatMap (fun d=>d.lits.map fun l=>l.name)=[]:=by
   intro ps
   induction ps with
   |nil=>rfl
   |cons p ps ih=>rw[List.map_cons,List.flatMap_cons,ih];rfl
  unfold BU;rw[List.flatMap_append,e,List.nil_append]
 have hg:∀f i xs,C9 (ps.map BC++R) f i xs=C9 R f i xs:=by
  intro f
  induction f with
  |zero=>intro i xs;rfl
  |succ f ih=>intro i xs;unfold C9;rw[h1];split<;>simp[ih]
 funext nm
 unfold B5;rw[h2];exact hg _ _ _
theorem Jl(ps:List (Nat×Nat))(hp:CK ps)(v:Nat)(hv:v<4):sound (ps.map BC++Ru v)=true:=by
 have h:=Ns v hv;unfold Ib at h;simp only[Bool.and_eq_true]at h;obtain⟨⟨h1,h2⟩,h3,h4⟩:=h;unfold sound;rw[Jn,List.map_append,List.flatMap_append,List.all_append,List.all_append,Jo,Kr ps hp,Lz,h3,h4];simp only[Bool.and_true]
 cases ps with
 |nil=>exact h1
 |cons p ps=>rw[List.length_cons,List.replicate_succ,List.cons_append,Db,if_neg (by decide)];rw[List.nil_append,List.nil_append,IC];exact h2
theorem GL(sep:UInt8)(ps:List (Nat×Nat)):(BR sep ps).length=11*ps.length:=by
 induction ps with
 |nil=>rfl
 |cons p ps ih=>unfold BR at*;rw[List.flatMap_cons,List.length_append,ih,List.length_cons];simp[DE,Ad];omega
def BJ(q:List Bool):List (Nat×Nat):=((List.range 16).filter (BP q)).map fun j=>(j / 4,j%4)
theorem C0(q:List Bool):CK (BJ q):=by intro p hp;unfold BJ at hp;rw[List.mem_map]at hp;obtain⟨j,hj,rfl⟩:=hp;have:=(List.mem_filter.1 hj).1;rw[List.mem_range]at this;constructor<;>simp only[]<;>omega
theorem Hn(q:List Bool):(BJ q).length<=16:=by unfold BJ;rw[List.length_map];have:=List.length_filter_le (BP q) (List.range 16);simpa using this
theorem Jm(q:List Bool):Bb q 16=(BJ q).map fun p=>DE p.1 p.2:=by unfold Bb BJ;rw[List.map_map];rfl
theorem Ge(q:List Bool):CY (Bb q 16)=BR 32 (BJ q):=by rw[Jm];unfold CY BR;rw[List.flatMap_map]
theorem KE(v:Nat)(hv:v<4):(CO v).length<=400:=four (P:=fun v=>(CO v).length<=400) (by decide+kernel) v hv
def Dt(q:List Bool)(v:Nat):B8:=CY (Bb q 16)++CO v
theorem Kl(q:List Bool)(v:Nat)(hv:v<4):
 C4 (bs (Dt q v))=(0,0)/\(Aw (bs (Dt q v))).cls.map Ap.core=((BJ q).map BC++Ru v).map Ap.core:=by
 have hp:=C0 q;have hn:=Hn q;have hl:=KE v hv;have hok:=Pz v hv;unfold Dt;rw[Ge];generalize BJ q=ps at*;have hcl:(A6 s0 24 [] (CO v)).cls=Ru v:=rfl;generalize CO v=l at*;obtain⟨ds',h1,h2⟩:=JX 32 (by decide) ps hp (40-ps.length) [] l;rw[show 40-ps.length+ps.length=40 by omega]at h2;have h3:A6 s0 (40-ps.length) ds' l=⟨true,ds'++Ru v,(A6 s0 24 [] l).rest⟩:=by have:=Mr s0 (40-ps.length) ds' [] l;rw[List.append_nil]at this;rw[this,show 40-ps.length=24+(16-ps.length) by omega,Lf _ _ _ _ _ hok,hok,hcl]
 rw[h3]at h2;obtain⟨k1,k2,k3⟩:=JZ (bs (BR 32 ps++l)) s0 40 [] [] (BR 32 ps++l) rfl;rw[h2]at k1 k2 k3;have hb:(bs (BR 32 ps++l)).data.toList=BR 32 ps++l:=IB _;have hsz:(bs (BR 32 ps++l)).size=(BR 32 ps++l).length:=Eu _;have hcore:(Aw (bs (BR 32 ps++l))).cls.map Ap.core=(ps.map BC++Ru v).map Ap.core:=by unfold Aw;rw[hb,k3,List.map_append,h1,List.map_append];rfl
 have hok':(Aw (bs (BR 32 ps++l))).ok=true:=by unfold Aw;rw[hb,k1]
 refine⟨?_,hcore⟩;unfold C4;rw[if_neg (by rw[hsz,List.length_append,GL];omega),hok',if_neg (by simp)];apply It;rw[JR _ _ hcore];exact Jl ps hp v hv
theorem Lv(q:List Bool)(v:Nat)(hv:v<4):(Dt q v).length<=2000:=by unfold Dt;have h1:=KE v hv;have h2:=Hn q;rw[Ge,List.length_append,GL];omega
end
end Go.Proofs.YtpbfiffgcgnidaaGreat
