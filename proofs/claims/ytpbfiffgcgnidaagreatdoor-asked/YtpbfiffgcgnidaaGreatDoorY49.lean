import Derived.Test.YtpbfiffgcgnidaaGreatDoorYal
import Derived.Sort.Walk0
import Derived.Test.YtpbfiffgcgnidaaGreatDoorY34
import Derived.Test.YtpbfiffgcgnidaaGreatDoorY40
import Derived.Test.YtpbfiffgcgnidaaGreatDoorY46
import Derived.Test.YtpbfiffgcgnidaaGreatDoorY48
namespace Go.Proofs.YtpbfiffgcgnidaaGreatDoor
set_option maxRecDepth 100000
set_option maxHeartbeats 4000000
set_option linter.unusedSectionVars false
set_option linter.unusedSimpArgs false
open Go.Proofs.Tryz
section
theorem Th{c:RC}:∀{b:List RA},Jp c b=none->∀a∈b,a.neg=true->Gi c a.ts=none:=by
 intro b
 induction b with
 |nil=>simp
 |cons x r j=>
  intro h a q hn;rw[Jp,Jd]at h;rcases List.mem_cons.1 q with rfl|q
  ·rw[Ai hn]at h;exact h.1
  ·exact j h.2 a q hn
theorem MX{c:RC}{ts:List RT}(h:Gi c ts=none):∀t∈ts,t.var=true->∃a∈c.body,a.neg=false/\∃t'∈a.ts,t'.var=true/\t'.s=t.s:=by
 intro t ht z;unfold Gi at h;rw[Pe,FZ]at h;have:=h t ht;rw[z,BD]at this;have hb:Ew c t.s=true:=by simpa using this
 unfold Ew at hb;rw[Ey]at hb;obtain⟨a,j,hb⟩:=hb;rw[Cp,Ey]at hb;obtain⟨hn,t',q,hb⟩:=hb;rw[Cp]at hb;exact⟨a,j,by simpa using hn,t',q,hb.1,BV hb.2⟩
theorem Xi{c:RC}(h:D2 c=none):Uq c:=by
 unfold D2 at h;rw[Jd]at h;intro t j q;rcases q with q|⟨a,z,hn,q⟩
 ·exact MX h.1 t q j
 ·exact MX (Th h.2 a z hn) t q j
theorem kB{c:RC}(y:c.fit)(h:Uq c):Up c.d:=by
 have mk:∀t:RT,t.var=true->(t∈c.head.ts\/∃a∈c.body,a.neg=true/\t∈a.ts)->∃l∈c.d.lits,l.neg=false/\t.s∈l.ts:=by intro t v q;obtain⟨a,j,hn,t',z,_,e⟩:=h t v q;exact⟨a.lit,List.mem_map.2 ⟨a,j,rfl⟩,hn,List.mem_map.2 ⟨t',z,e⟩⟩
 intro x hx q;rcases q with q|⟨l,k,hn,q⟩
 ·obtain⟨t,ht,rfl⟩:=List.mem_map.1 q;exact mk t (by rw[y.1 t ht];exact hx) (.inl ht)
 ·obtain⟨a,j,rfl⟩:=List.mem_map.1 k;obtain⟨t,ht,rfl⟩:=List.mem_map.1 q;exact mk t (by rw[y.2 a j t ht];exact hx) (.inr ⟨a,j,hn,ht⟩)
def IL(cs:List RC):B8->Nat:=D9 (BJ cs) (CZ (A2 cs)).length
theorem LC{cs:List RC}(hF:E2 cs):MJ (IL cs) (cs.map RC.d):=by
 have hin:=I0 cs
 have j:=Qk (BJ cs) hF.flat (CZ (A2 cs)) (by
  intro e q;obtain⟨c,hc,a,z,rfl⟩:=Ks.1 q
  exact(hin c hc).1)
 intro d hd l y;obtain⟨c,hc,rfl⟩:=List.mem_map.1 hd;obtain⟨a,z,rfl⟩:=List.mem_map.1 y;have q:(⟨c.head.name,a.name,a.neg⟩:Dw)∈BJ cs:=Ks.2 ⟨c,hc,a,z,rfl⟩;have h1:=Js (IL cs) c.head.name 0 (BJ cs) _ q rfl;have h2:=j c.head.name;unfold Og at h2;have h3:Db (IL cs) c.head.name 0 (BJ cs)=IL cs c.head.name:=h2;rw[h3]at h1;exact h1
theorem XV(cs:List RC)(p:B8):IL cs p<=(CZ (A2 cs)).length:=K3 _ _ p
theorem J7{cs:List RC}(hF:E2 cs):∀c∈cs,c.fit:=fun c hc=>(hF.bq c hc).fit
theorem PX{cs:List RC}(hF:E2 cs):∀c∈cs,Uq c:=fun c hc=>Xi (hF.shut c hc)
theorem Jj{cs:List RC}(hF:E2 cs):∀d∈cs.map RC.d,Up d:=by intro d hd;obtain⟨c,hc,rfl⟩:=List.mem_map.1 hd;exact kB (J7 hF c hc) (PX hF c hc)
def Ki(cs:List RC):BA->Prop:=HD (IL cs) (cs.map RC.d)
theorem F4{cs:List RC}(hF:E2 cs):FT (cs.map RC.d) (Ki cs):=eB (LC hF)
theorem aR(ts:List B8):∀k:Nat,LI k ts<0->∀t∈ts,Bo t=false:=by
 induction ts with
 |nil=>intro k _ t ht;simp at ht
 |cons x r q=>
  intro k h t ht;rw[LI]at h
  split at h
  ·omega
  ·rename_i hx;rcases List.mem_cons.1 ht with rfl|ht
   ·simpa using hx
   ·exact q (k+1) h t ht
theorem Ny:O8:=by intro n ts h;unfold CR at h;rw[Cp]at h;exact⟨BV h.1,aR ts 0 (BV h.2)⟩
def Hb(cs:List RC):Nat:=DH (max 1 (CE (cs.map RC.d)).length) (cs.map RC.d)
theorem LH{cs:List RC}(hF:E2 cs){q:List BA}(hn:q.Nodup)(h:∀b∈q,Ki cs b):q.length<=Hb cs+40:=by have h1:=hn.length_le_of_subset (l₂:=dZ (cs.map RC.d)) (fun b hb=>(QQ (F4 hF) (Jj hF) b (h b hb)).1);have h2:=Y9 Ny (cs.map RC.d);have h3:=hF.bp;rw[AK]at h2;unfold Hb;omega
theorem Wp{cs:List RC}(hF:E2 cs){d:Bd}(hd:d∈cs.map RC.d):(d.name.length<=12/\d.ts.length<=3/\∀t∈d.ts,t.length<=12)/\∀l∈d.lits,l.name.length<=12/\l.ts.length<=3/\∀t∈l.ts,t.length<=12:=by have h:=(hF.wf d hd).words;exact⟨h _ (FC.2 (.inl rfl)),fun l q=>h _ (FC.2 (.inr ⟨l,q,rfl⟩))⟩
theorem TU{cs:List RC}(hF:E2 cs){t:B8}(ht:t∈CE (cs.map RC.d)):t.length<=12:=by obtain⟨_,d,hd,a,q,j⟩:=M5.1 ht;exact((hF.wf d hd).words a q).2.2 t j
theorem Jt{cs:List RC}(hF:E2 cs){b:BA}(h:Ki cs b):b.1.length<=12/\b.2.length<=3/\(∀t∈b.2,t∈CE (cs.map RC.d))/\∀t∈b.2,t.length<=12:=by obtain⟨_,h2,d,hd,h3,j⟩:=QQ (F4 hF) (Jj hF) b h;have q:=(Wp hF hd).1;exact⟨by rw[h3];exact q.1,by rw[j];exact q.2.1,h2,fun t ht=>TU hF (h2 t ht)⟩
structure QF(cs:List RC)(k:Nat)(H:List BA):Prop where
 fl:H.Nodup
 ok:∀b∈H,Ki cs b/\IL cs b.1<k+1
 low:∀b,Ki cs b->IL cs b.1<k->b∈H
theorem QF.bp{cs:List RC}(hF:E2 cs){k:Nat}{H:List BA}(h:QF cs k H):H.length<=Hb cs+40:=LH hF h.fl (fun b hb=>(h.ok b hb).1)
theorem QF.words{cs:List RC}(hF:E2 cs){k:Nat}{H:List BA}(h:QF cs k H):∀b∈H,b.2.length<=3:=fun b hb=>(Jt hF (h.ok b hb).1).2.1
theorem QF.der{cs:List RC}(hF:E2 cs){k:Nat}{H:List BA}(h:QF cs k H){c:RC}(hc:c∈cs)(q:IL cs c.head.name=k):∀b∈FP H c c.body [],Ki cs b/\IL cs b.1<k+1:=by intro b hb;obtain⟨h1,h2⟩:=kW (F4 hF) (LC hF) (J7 hF) (fun b hb=>(h.ok b hb).1) h.low hc q hb;exact⟨h1,by rw[h2,q];omega⟩
theorem QF.ez{cs:List RC}(hF:E2 cs){k:Nat}{H:List BA}(h:QF cs k H){c:RC}(hc:c∈cs):(FP H c c.body []).length<=Hb cs+1:=
 Yj Ny hc (J7 hF c hc) h.fl (fun b hb=>(Jt hF (h.ok b hb).1).2.2.1)
theorem QF.more{cs:List RC}{k:Nat}{H:List BA}(h:QF cs k H){b:BA}(hb:Ki cs b/\IL cs b.1<k+1)(hn:b∉H):QF cs k (H++[b]):=by
 refine⟨?_,?_,fun x h1 h2=>List.mem_append_left _ (h.low x h1 h2)⟩
 ·rw[L7];refine⟨h.fl,by simp,?_⟩;intro x hx y q e;simp at q;subst e;subst q;exact hn hx
 ·intro x hx;rcases List.mem_append.1 hx with hx|hx
  ·exact h.ok x hx
  ·simp at hx;subst hx;exact hb
theorem QF.done{cs:List RC}(hF:E2 cs){k:Nat}{H:List BA}(h:QF cs k H)(hc:∀c∈cs,IL cs c.head.name=k->∀b∈FP H c c.body [],b∈H):QF cs (k+1) H:=
 ⟨h.fl,fun b hb=>⟨(h.ok b hb).1,by have:=(h.ok b hb).2;omega⟩,Z0 (F4 hF) (LC hF) (J7 hF) (PX hF) (fun b hb=>(h.ok b hb).1) h.low hc⟩
theorem bI{cs:List RC}(hF:E2 cs){k:Nat}{H:List BA}(h:QF cs k H)(hw:Hb cs<=2000){c:RC}(hc:c∈cs):oD c H:=by have hs:=(hF.bq c hc).small;refine⟨hs.head.bp,hs.bp,fun a q=>(hs.body a q).bp,?_,h.words hF⟩;have:=h.bp hF;omega
structure LZ(cs:List RC)(k:Nat)(H0:List BA)(i:Nat)(H:List BA)(ag:Bool):Prop where
 st:QF cs k H
 up:ag=true->H0.length<H.length
 down:ag=false->H=H0/\∀c∈cs.take i,IL cs c.head.name=k->∀b∈FP H c c.body [],b∈H
structure Ja(cs:List RC)(k:Nat)(H0 Hi:List BA)(agi:Bool)(L:List BA)(j:Nat)(H:List BA)(ag:Bool):Prop where
 st:QF cs k H
 up:ag=true->H0.length<H.length
 down:ag=false->agi=false/\H=Hi/\∀b∈L.take j,b∈H
 grow:Hi.length<=H.length
theorem LZ.skip{cs:List RC}{k i:Nat}{j H:List BA}{ag:Bool}(h:LZ cs k j i H ag)(z:i<cs.length)(y:IL cs cs[i].head.name≠k):LZ cs k j (i+1) H ag:=by
 refine⟨h.st,h.up,fun e=>⟨(h.down e).1,?_⟩⟩;intro c hc q;rw[Ad z,Bi,A7]at hc;rcases hc with hc|rfl
 ·exact(h.down e).2 c hc q
 ·exact absurd q y
theorem Ja.begin{cs:List RC}{k i:Nat}{q H:List BA}{ag:Bool}(h:LZ cs k q i H ag)(L:List BA):Ja cs k q H ag L 0 H ag:=⟨h.st,h.up,fun e=>⟨e,rfl,by simp⟩,Ab _⟩
theorem Ja.old{cs:List RC}{k j:Nat}{z y L H:List BA}{q ag:Bool}(h:Ja cs k z y q L j H ag)(v:j<L.length)(u:L[j]∈H):Ja cs k z y q L (j+1) H ag:=by
 refine⟨h.st,h.up,fun e=>⟨(h.down e).1,(h.down e).2.1,?_⟩,h.grow⟩;intro b hb;rw[Ad v,Bi,A7]at hb;rcases hb with hb|rfl
 ·exact(h.down e).2.2 b hb
 ·exact u
theorem Ja.new{cs:List RC}{k j:Nat}{z y L H:List BA}{q ag:Bool}(h:Ja cs k z y q L j H ag)(h0:z.length<=y.length)(hj:j<L.length)(hb:Ki cs L[j]/\IL cs L[j].1<k+1)(v:L[j]∉H):Ja cs k z y q L (j+1) (H++[L[j]]) true:=by have:=h.grow;refine⟨h.st.more hb v,fun _=>by rw[Am,List.length_singleton];omega,fun e=>by simp at e,by rw[Am];omega⟩
theorem Ja.fin{cs:List RC}{k i:Nat}{z j H:List BA}{q ag:Bool}(v:LZ cs k z i j q)(u:i<cs.length)(h:Ja cs k z j q (FP j cs[i] cs[i].body []) (FP j cs[i] cs[i].body []).length H ag):LZ cs k z (i+1) H ag:=by
 refine⟨h.st,h.up,fun e=>?_⟩;obtain⟨h1,rfl,h3⟩:=h.down e;refine⟨(v.down h1).1,?_⟩;intro c hc y;rw[Ad u,Bi,A7]at hc;rcases hc with hc|rfl
 ·exact(v.down h1).2 c hc y
 ·rw[AL]at h3;exact h3
theorem LZ.len{cs:List RC}{k i:Nat}{q H:List BA}{ag:Bool}(h:LZ cs k q i H ag):q.length<=H.length:=by
 cases ag with
 |true=>have:=h.up rfl;omega
 |false=>rw[(h.down rfl).1];exact Ab _
end
section
attribute [local go_sem] AE As
open Go.RowKit Go.WideMaps Go.Maps
theorem iU.drew{w:World}{base own b2:Nat}{c:RC}{H:List BA}{hq:Option Addr}{q:Nat}{bo:Option Addr}{bcap:Nat}{ao:Option Addr}{cap:Nat}(h:iU w base own b2 c H hq q bo bcap ao cap):iU w.drew base own b2 c H hq q bo bcap ao cap:=⟨h.head,h.body,h.hold⟩
def lR(cs:List RC)(H:List BA):Prop:=∀b,b∈H↔Ki cs b
theorem BB.br{w w':World}{own base own' n:Nat}{v u:Value}{b:List RA}{xs:List Value}(h:BB w own base v b)(t:w.ownsRow own' 69 5 u n xs)(j:w.grownBy w' u.ownBlock)(q:Y5 u v):BB w' own base v b:=by
 obtain⟨rows,r,d,g⟩:=h;refine⟨rows,r.kept j ?_,d,fun i a cs z y=>(g i a cs z y).kept j t⟩
 cases hv:v.ownBlock with
 |none=>exact .inl rfl
 |some k=>exact .inr (fun e=>q k e.symm hv)
theorem K4{w:World}{own base:Nat}{v:Value}{H:List BA}(h:BB w own base v (H.map gA)):∃rows:List (List Value),w.ownsRow own 69 5 v H.length rows.flatten/\rows.length=(H.map gA).length/\∀(i:Nat) (a:RA) (cs:List Value),(H.map gA)[i]? =some a->rows[i]? =some cs->BY w base a cs:=by obtain⟨rows,q,z,j⟩:=h;rw[AK]at q;exact⟨rows,q,z,j⟩
def JH(f:B8->Nat)(m:Nat)(l:List RC):Nat:=l.foldl (fun m c=>if m<f c.head.name then f c.head.name else m) m
theorem ZN(f:B8->Nat):∀(l:List RC) (m:Nat),m<=JH f m l:=by
 intro l
 induction l with
 |nil=>intro m;exact Ab _
 |cons c r q=>
  intro m;refine Ay ?_ (q _);simp only[]
  split<;>omega
theorem XN(f:B8->Nat):∀(l:List RC) (m:Nat),∀c∈l,f c.head.name<=JH f m l:=by
 intro l
 induction l with
 |nil=>intro m c hc;simp at hc
 |cons x r q=>
  intro m c hc;rcases List.mem_cons.1 hc with rfl|hc
  ·refine Ay ?_ (ZN f r _);simp only[]
   split<;>omega
  ·exact q _ c hc
theorem Ta(f:B8->Nat)(B:Nat)(q:∀p,f p<=B):∀(l:List RC) (m:Nat),m<=B->JH f m l<=B:=by
 intro l
 induction l with
 |nil=>intro m h;exact h
 |cons c r j=>
  intro m h;refine j _ ?_;have:=q c.head.name;simp only[]
  split<;>omega
theorem Vf(f:B8->Nat)(l:List RC)(i:Nat)(q:i<l.length):JH f 0 (l.take (i+1))=if JH f 0 (l.take i)<f l[i].head.name then f l[i].head.name else JH f 0 (l.take i):=by unfold JH;rw[Ad q,Dd];rfl
def Mo(f:B8->Nat)(l:List RC):List Value:=l.map fun c=>.int .i64 (f c.head.name:Nat)
def mV:Value->Nat
 |.bool true=>1
 |_=>0
def mE:Value->Nat
 |.slice _ n _=>n
 |_=>0
theorem gI(w:World)(base rb:Nat)(v:Value)(cs:List RC)(hV:Aw w rb [v] 76)(hL:Ck w base v cs)(hF:E2 cs)(c7:Hb cs<=2000):
 Calls prog 81 #[.pointer (some ⟨rb,0,none⟩)] w fun e w'=>∃(E:Value),e=.returned E/\∃(H:List BA),BB w' w.heap.size w.heap.size E (H.map gA)/\H.Nodup/\lR cs H/\Below w.heap.size w w':=by
 obtain⟨i1,p9,c8,c9,m0⟩:=Bc I5;obtain⟨j1,t0,r2,r3,r4⟩:=Bc TA;obtain⟨ao,cap,rfl⟩:∃ao cap,v=.slice ao cs.length cap:=by obtain⟨rows,ho,_,_⟩:=hL;exact Au ho
 have hn:=hF.bp;have hb:∀c∈cs,c.body.length<=4:=fun c hc=>(hF.bq c hc).small.bp;have m3:=Ao hb;have k2:=Ao (WA w base ao cap cs hL hn hb);have k0:=Ao (I0 cs);have hUn:(CZ (A2 cs)).length<=200:=by have h1:=K2 (A2 cs);have h2:=GA cs hb;omega
 have O:=Ao (fun W sb so sc=>Tn W base rb (.slice ao cs.length cap) cs (hn:=hn) (hb:=hb) (sbase:=sb) (so:=so) (scap:=sc) (U:=CZ (A2 cs)) (hUn:=hUn) (hin:=I0 cs));have j5:=Ao (XV cs);obtain⟨U,HU⟩:∃U,Hid (CZ (A2 cs)=U):=⟨_,Ao rfl⟩;have u4:Hid (D9 (BJ cs) U.length=IL cs):=by show _=_;rw[<-HU.out];rfl
 rw[HU.out]at k2 k0 O j5 hUn;rw[u4.out]at O;obtain⟨f,j4⟩:∃f,Hid (IL cs=f):=⟨_,Ao rfl⟩;rw[j4.out]at O j5;clear hb;have v0:w.cell? ⟨rb,0,none⟩=some (.slice ao cs.length cap):=hV.cell 0;have m9:=hV.lt;go_enter func81,ntmps81;go_wp2_with (first|(go_at_call 46;refine(k2.out).mono ?_;rintro e w1 ⟨uv,rfl,j9,j8⟩;obtain⟨so,scap,rfl⟩:=Au j9;have d7:=hV.below j8;have d1:=hL.below j8;have c5:=j8.size)|(go_at_call 48;refine(O.out _ w.heap.size so scap d7 d1 j9).mono ?_;rintro e w2 ⟨gl,rfl,b7,g5⟩));have d5:=Ah j9 g5;have z5:=j8.trans (g5.mono c5);clear j9 d7 d1 k2 O;have t8:=z5.size
 go_loopw [4,5,8] (fun lv mv iv wr=>∃(i:Nat),i<=cs.length/\iv=.int .i64 i/\mv=.int .i64 (JH f 0 (cs.take i):Nat)/\wr.ownsRow w2.heap.size 3 1 lv i (Mo f (cs.take i))/\Below w2.heap.size w2 wr) (fun _ _ iv _=>cs.length-(intOf iv).toNat)
 case atStart=>exact⟨0,by omega,rfl,rfl,Ak _ _ _ _,Ag _ _⟩
 case round=>
  obtain⟨i,hi,rfl,rfl,Z,hB⟩:=hrel;obtain⟨lo,lc,rfl⟩:=Au Z;have N:=z5.trans (hB.mono t8);have z0:=hV.below N;have q0:wr.cell? ⟨rb,0,none⟩=some (.slice ao cs.length cap):=z0.cell 0;have z1:=z0.lt;have c1:=Ta f U.length j5.out (cs.take i) 0 (by omega);by_cases S:i<cs.length
  ·obtain⟨gc,tv,bo,bcap,v3,V,b0,b1,b2,b3,b4,b5,hT,hR⟩:=DZ (hL.below N) rfl i S;subst v3;have HM:=Ao (k0.out cs[i] (Aj S)).1;have k5:=Ao (Vf f cs i S);have k4:=Ao (show Mo f (cs.take (i+1))=Mo f (cs.take i)++[.int .i64 (f cs[i].head.name:Nat)] by unfold Mo;rw[Ad S,A8];rfl);obtain⟨c,q5⟩:∃c,cs[i]=c:=⟨_,rfl⟩;simp only[q5]at b0 HM k5 k4;unfold RA.w at b0;clear q5 b1 b2 b3 b4 b5 hT hR;have g0:=Ao (show Gf U c.head.name=((U.idxOf c.head.name:Nat):Int) by unfold Gf;rw[Ai HM.out]);have n3:=B9 HM.out;have d0:=b7.below hB;have q1:=d0.cell (U.idxOf c.head.name);rw[Kq U f c.head.name HM.out]at q1;have m8:=d0.lt;have m5:=j5.out c.head.name;generalize U.idxOf c.head.name=pos at*;generalize f c.head.name=fc at*;generalize JH f 0 (cs.take i)=mm at*;have y9:=hB.size;have d6:=Ah d5 hB;by_cases t9:mm<fc
   ·have r1:((mm:Nat):Int)<((fc:Nat):Int):=by omega
    have k1:=Ao (show JH f 0 (cs.take (i+1))=fc by rw[k5.out,Ai t9]);go_wp2_with (first|(go_at_call 47;refine(Iy _ w.heap.size so scap U (by exact d6) (by omega) c.head.name).mono ?_;rintro e w3 ⟨he,c6⟩;subst w3;rw[g0.out]at he;subst he)|(at_builtin;refine AF _ rfl _ _ 97 rfl w2.heap.size 3 j1 _ 1 8 underlying97 t0 r2 r3 r4 rfl (by decide) _ i _ rfl (by exact Z.alloc _) ⟨wr.heap.size,0,none⟩ 1 [.int .i64 (fc:Nat)] rfl rfl (AS _ _ _) (by intro u hu;simp at hu;subst hu;rfl) (by unfold maxLen;omega) (by omega) (by simp;omega) ?_;intro g4 g1 w4 v7 v4));have t:Below w2.heap.size w2 w4:=(hB.alloc y9 _).grown v4 (by simp;omega) (A9 Z);exact⟨⟨i+1,S,by go_num,by rw[k1.out],by rw[k4.out];exact v7,t⟩,by simp[intOf];omega⟩
   ·have r1:¬((mm:Nat):Int)<((fc:Nat):Int):=by omega
    have k1:=Ao (show JH f 0 (cs.take (i+1))=mm by rw[k5.out,Af t9]);go_wp2_with (first|(go_at_call 47;refine(Iy _ w.heap.size so scap U (by exact d6) (by omega) c.head.name).mono ?_;rintro e w3 ⟨he,c6⟩;subst w3;rw[g0.out]at he;subst he)|(at_builtin;refine AF _ rfl _ _ 97 rfl w2.heap.size 3 j1 _ 1 8 underlying97 t0 r2 r3 r4 rfl (by decide) _ i _ rfl (by exact Z.alloc _) ⟨wr.heap.size,0,none⟩ 1 [.int .i64 (fc:Nat)] rfl rfl (AS _ _ _) (by intro u hu;simp at hu;subst hu;rfl) (by unfold maxLen;omega) (by omega) (by simp;omega) ?_;intro g4 g1 w4 v7 v4));have t:Below w2.heap.size w2 w4:=(hB.alloc y9 _).grown v4 (by simp;omega) (A9 Z);exact⟨⟨i+1,S,by go_num,by rw[k1.out],by rw[k4.out];exact v7,t⟩,by simp[intOf];omega⟩
  ·obtain rfl:i=cs.length:=by omega
   have p3:=Ao (fun c hc=>XN f cs 0 c hc);rw[AL]at Z c1⊢;generalize JH f 0 cs=mx at*;have d2:=BS (base':=w.heap.size) Z t8;have d3:=hL.below N;have q9:=N.size;clear Z b7 d5 k0 u4 HU hB;have d4:QF cs 0 []:=⟨Cw,by simp,fun b _ h=>by omega⟩
   obtain⟨R,n0,u0,HV,r8,p0,u1,j0,r6,r5⟩:∃(R:World->Prop) (n0:Nat),Hid (R wr)/\Hid (∀g,R g->Aw g rb [.slice ao cs.length cap] 76)/\Hid (∀g,R g->Ck g base (.slice ao cs.length cap) cs)/\Hid (∀g,R g->g.ownsRow w.heap.size 3 1 (.slice lo cs.length lc) cs.length (Mo f cs))/\Hid (∀g,R g->n0<=g.heap.size)/\Hid (∀g C,R g->Below g.heap.size g C->R C)/\Hid (∀(g C:World) (row:Option Nat),R g->g.grownBy C row->(∀k,row=some k->n0<=k)->R C)/\Hid (∀g,R g->Below w.heap.size w g/\w.heap.size<=n0):=
    ⟨fun g=>Below wr.heap.size wr g,wr.heap.size,Ao (Ag _ _),Ao fun g h=>z0.below h,Ao fun g h=>d3.below h,Ao fun g h=>Ah d2 h,Ao fun g h=>h.size,Ao fun g C h h'=>h.trans (h'.mono h.size),Ao fun g C row h hg hr=>h.grown hg h.size hr,Ao fun g h=>⟨N.trans (h.mono q9),q9⟩⟩
   go_wp2_with fail;clear z0 d3 d2 N q9 q0 z1
   go_loopw [3,10] (fun E lv g=>∃(k:Nat) (H:List BA),k<=mx+1/\lv=.int .i64 k/\QF cs k H/\BB g n0 n0 E (H.map gA)/\R g) (fun _ lv _=>mx+1-(intOf lv).toNat)
   case atStart=>exact⟨0,[],by omega,rfl,d4,BB.nil _ _ _,u0.out⟩
   case round=>
    clear d4 u0;obtain⟨k,H,hk,rfl,Y,q,z⟩:=hrel;by_cases m7:k<=mx
    ·have t2:((k:Nat):Int)<=((mx:Nat):Int):=by omega
     go_wp2_with fail
     go_loopw [3,11] (fun E av g=>∃(H:List BA) (ag:Bool),av=.bool ag/\QF cs k H/\Hid (ag=false->∀c∈cs,IL cs c.head.name=k->∀b∈FP H c c.body [],b∈H)/\BB g n0 n0 E (H.map gA)/\R g) (fun E av _=>2*(2040-mE E)+mV av)
     case atStart=>exact⟨H,true,rfl,Y,Ao (fun e=>by simp at e),q,z⟩
     case round=>
      clear Y q z;obtain⟨H0,ag,rfl,Y,u2,q,z⟩:=hrel;cases ag
      ·go_wp2_with fail;exact⟨⟨k+1,H0,by omega,by go_num,Y.done hF (u2.out rfl),q,z⟩,by simp[intOf];omega⟩
      ·clear u2;go_wp2_with fail
       go_loopw [3,11,12] (fun E av iv g=>∃(i:Nat) (H:List BA) (ag:Bool),i<=cs.length/\iv=.int .i64 i/\av=.bool ag/\LZ cs k H0 i H ag/\BB g n0 n0 E (H.map gA)/\R g) (fun _ _ iv _=>cs.length-(intOf iv).toNat)
       case atStart=>exact⟨0,H0,false,by omega,rfl,rfl,⟨Y,fun e=>by simp at e,fun _=>⟨rfl,by simp⟩⟩,q,z⟩
       case round=>
        have u5:=Ao q;clear q z;obtain⟨i,H,ag,hi,rfl,rfl,m,q,z⟩:=hrel;have v2:=HV.out _ z;have q0:wr.cell? ⟨rb,0,none⟩=some (.slice ao cs.length cap):=v2.cell 0;have z1:=v2.lt;by_cases G:i<cs.length
        ·have k7:=p0.out _ z;obtain⟨g3,c0,y5⟩:=DO k7 i G;subst c0;have d9:=(k7.lt g3 rfl).2;have r0:wr.cell? ⟨g3,i,none⟩=some (.int .i64 (f cs[i].head.name:Nat)):=by rw[y5];unfold Mo;rw[Ba,Ar G];rfl
         clear y5 k7;by_cases q7:f cs[i].head.name=k
         ·rw[q7]at r0;have m2:(((k:Nat):Int) != ((k:Nat):Int))=false:=by simp
          obtain⟨gc,tv,bo,bcap,v3,V,b0,b1,b2,b3,b4,b5,hT,hR⟩:=DZ (r8.out _ z) rfl i G;subst v3;have u6:=Ao (show IL cs cs[i].head.name=k by rw[j4.out];exact q7);have j2:=Ao (Aj G);have A:=Ao (fun B Q h=>Ja.fin (H:=B) (ag:=Q) m G h);obtain⟨c,q5⟩:∃c,cs[i]=c:=⟨_,rfl⟩;simp only[q5]at b0 b1 b2 b3 b4 b5 hT hR u6 j2 A;clear q5 q7;unfold RA.w at b0;obtain⟨hq,K,rfl⟩:=Au hT;obtain⟨z2,hcp,q8⟩:=q.form;rw[AK]at q8;subst q8;have p8:=m.st.ez hF j2.out;have j3:=Ao (fun(W:World) (hD:iU W base n0 n0 c H hq K bo bcap z2 hcp)=>Yi c H (bI hF m.st c7 j2.out) hq K bo bcap z2 hcp base n0 n0 (c.body.length+1) W 0 [] 0 none none 0 0 (by omega) (by omega) hD ⟨Ak _ _ _ _,Ak _ _ _ _⟩ (fun _=>⟨rfl,rfl,rfl,rfl⟩) (by simp) (by rw[B4];omega));rw[B4]at j3;have u3:=Ao (m.st.der hF j2.out u6.out);obtain⟨L,HL⟩:∃L,Hid (FP H c c.body []=L):=⟨_,Ao rfl⟩;rw[HL.out]at j3 A u3 p8;have b6:iU wr base n0 n0 c H hq K bo bcap z2 hcp:=⟨hT,hR,q⟩;have k8:=Aw.new wr [.slice none 0 0,.slice none 0 0] 156;have M:=Ac wr (.cells #[.slice none 0 0,.slice none 0 0] 156);have j6:Hid (∀w',Below (wr.alloc (.cells #[.slice none 0 0,.slice none 0 0] 156)).heap.size (wr.alloc (.cells #[.slice none 0 0,.slice none 0 0] 156)) w'->w'.cell? ⟨rb,0,none⟩=some (.slice (some ⟨gc,0,none⟩) cs.length cap)/\w'.cell? ⟨gc,i*6,none⟩=some (.string (bs c.head.name))/\w'.cell? ⟨gc,i*6+1,none⟩=some (.slice hq c.head.ts.length K)/\w'.cell? ⟨gc,i*6+2,none⟩=some (.int .i64 (c.head.pl:Nat))/\w'.cell? ⟨gc,i*6+3,none⟩=some (.int .i64 (c.head.af:Nat))/\w'.cell? ⟨gc,i*6+4,none⟩=some (.bool c.head.neg)/\w'.cell? ⟨gc,i*6+5,none⟩=some (.slice bo c.body.length bcap)/\w'.cell? ⟨wr.heap.size,0,none⟩=some (.slice none 0 0)/\w'.cell? ⟨wr.heap.size,1,none⟩=some (.slice none 0 0)):=by intro W hW;have P:=M.trans (hW.mono M.size);exact⟨by rw[P.cell (p:=⟨rb,0,none⟩) z1];exact q0,by rw[P.cell (p:=⟨gc,i*6,none⟩) V];exact b0,by rw[P.cell (p:=⟨gc,i*6+1,none⟩) V];exact b1,by rw[P.cell (p:=⟨gc,i*6+2,none⟩) V];exact b2,by rw[P.cell (p:=⟨gc,i*6+3,none⟩) V];exact b3,by rw[P.cell (p:=⟨gc,i*6+4,none⟩) V];exact b4,by rw[P.cell (p:=⟨gc,i*6+5,none⟩) V];exact b5,(k8.below hW).cell 0,(k8.below hW).cell 1⟩
          go_wp2_with fail
          go_region_held3 (fun w'=>w'.cell? ⟨rb,0,none⟩=some (.slice (some ⟨gc,0,none⟩) cs.length cap)/\w'.cell? ⟨gc,i*6,none⟩=some (.string (bs c.head.name))/\w'.cell? ⟨gc,i*6+1,none⟩=some (.slice hq c.head.ts.length K)/\w'.cell? ⟨gc,i*6+2,none⟩=some (.int .i64 (c.head.pl:Nat))/\w'.cell? ⟨gc,i*6+3,none⟩=some (.int .i64 (c.head.af:Nat))/\w'.cell? ⟨gc,i*6+4,none⟩=some (.bool c.head.neg)/\w'.cell? ⟨gc,i*6+5,none⟩=some (.slice bo c.body.length bcap)/\w'.cell? ⟨wr.heap.size,0,none⟩=some (.slice none 0 0)/\w'.cell? ⟨wr.heap.size,1,none⟩=some (.slice none 0 0)) (first
            |exact j6.out _ (Ag _ _)
            |exact j6.out _ (Ag _ _).drew
            |exact j6.out _ k6) (first
            |(go_at_call 114;refine(j3.out _ (by exact(b6.below M).drew)).mono ?_;rintro e w3 ⟨lv,rfl,J,p7,g6⟩;have k6:=(Ag _ (wr.alloc (.cells #[.slice none 0 0,.slice none 0 0] 156))).drew.trans g6))
          obtain⟨n5,y8,-,-⟩:=K4 q;have I:Below wr.heap.size wr w3:=M.trans (k6.mono M.size);have z4:=j0.out _ _ z I;have n1:=u1.out _ z;obtain⟨v9,l,t4⟩:=J.form;rw[AK]at t4;subst t4;have z7:=J.mono (own':=n0) (base':=n0) (by simp;omega) (by simp;omega);have q3:Y5 (.slice z2 H.length hcp) (.slice v9 L.length l):=by intro y e1 e2;obtain⟨rl,c4,-,-⟩:=K4 J;have h1:=(y8.lt y e1).2;have h2:=(c4.lt y e2).1;simp at h2;omega
          have z9:=Ja.begin m L;have v6:=m.len;have z8:=q.below I;clear J y8 b6 j3 j6 k8 M hT hR b0 b1 b2 b3 b4 b5 V d9 r0 z1 q0 v2 q g6 k6 p7;go_wp2_with fail
          go_loopw [3,11,15] (fun E av jv g=>∃(j:Nat) (B:List BA) (Q:Bool),j<=L.length/\jv=.int .i64 j/\av=.bool Q/\Ja cs k H0 H ag L j B Q/\BB g n0 n0 E (B.map gA)/\BB g n0 n0 (.slice v9 L.length l) (L.map gA)/\Y5 E (.slice v9 L.length l)/\R g) (fun _ _ jv _=>L.length-(intOf jv).toNat)
          case atStart=>exact⟨0,H,ag,by omega,rfl,rfl,z9,z8,z7,q3,z4⟩
          case round=>
            clear z9 z8 z7 q3 z4 z I;obtain⟨j,B,Q,hj,rfl,rfl,q4,q,J,q2,z⟩:=hrel;obtain⟨v8,q6,q8⟩:=q.form;rw[AK]at q8;subst q8;have m1:=q4.st.bp hF;have n2:=u1.out _ z;by_cases X:j<L.length
            ·obtain⟨r,s,n,t3,o,h0,h1,h2,h3,h4,v1⟩:=Nx J rfl j X;subst t3;have u8:=Ao (u3.out L[j] (Aj X));have u9:=Ao (q4.old X);have u7:=Ao (fun hb hm=>q4.new v6 X hb hm);obtain⟨b,d8⟩:∃b,L[j]=b:=⟨_,rfl⟩;simp only[d8]at h0 h1 v1 u8 u9 u7;clear d8;have j7:=Ao (fun(W:World) (hW:Below wr.heap.size wr W)=>Wq W n0 n0 n0 v8 q6 B (q.below hW) (by omega) (fun x hx=>Ay (q4.st.words hF x hx) (by omega)) b s n (Ah v1 hW));by_cases hm:b∈B
             ·rw[Bq hm]at j7;have k3:=Ao (u9.out hm);clear hm;go_wp2_with (go_at_call 115;refine(j7.out _ (Ag _ wr)).mono ?_;rintro e w4 ⟨rfl,t⟩);exact⟨⟨j+1,B,Q,X,by go_num,rfl,k3.out,q.below t,J.below t,q2,j0.out _ _ z t⟩,by simp[intOf];omega⟩
             ·rw[A5 hm]at j7;have k3:=Ao (u7.out u8.out hm);clear hm;go_wp2_with (first|(go_at_call 115;refine(j7.out _ (Ag _ wr)).mono ?_;rintro e w4 ⟨rfl,t⟩;have y0:w4.cell? ⟨r,j*5,none⟩=some (.string (bs b.1)):=(by rw[t.cell (p:=⟨r,j*5,none⟩) o];exact h0);have y1:w4.cell? ⟨r,j*5+1,none⟩=some (.slice s b.2.length n):=(by rw[t.cell (p:=⟨r,j*5+1,none⟩) o];exact h1);have y2:w4.cell? ⟨r,j*5+2,none⟩=some (.int .i64 0):=(by rw[t.cell (p:=⟨r,j*5+2,none⟩) o];exact h2);have y3:w4.cell? ⟨r,j*5+3,none⟩=some (.int .i64 0):=(by rw[t.cell (p:=⟨r,j*5+3,none⟩) o];exact h3);have y4:w4.cell? ⟨r,j*5+4,none⟩=some (.bool false):=(by rw[t.cell (p:=⟨r,j*5+4,none⟩) o];exact h4);have yl:r<w4.heap.size:=AH o t.size;obtain⟨rb,z3,t6,t7⟩:=K4 (q.below t);have n4:=t.size)|(at_builtin;refine Bv _ rfl _ _ 64 rfl n0 69 i1 _ 5 64 underlying64 p9 c8 c9 m0 rfl (by decide) (.slice v8 B.length q6) B.length rb.flatten rfl (by exact z3.alloc _) ⟨w4.heap.size,0,none⟩ 1 1 [.string (bs b.1),.slice s b.2.length n,.int .i64 0,.int .i64 0,.bool false] rfl (by decide) rfl (by exact AS w4 [.string (bs b.1),.slice s b.2.length n,.int .i64 0,.int .i64 0,.bool false] 69) (by intro u hu;simp at hu;rcases hu with rfl|rfl|rfl|rfl|rfl<;>rfl) (by unfold maxLen;omega) (by omega) (by simp;omega) ?_;intro g7 g2 w7 c2 v5 c3));have g8:=j0.out _ _ (j0.out _ _ z t) (Ac w4 (.cells #[.string (bs b.1),.slice s b.2.length n,.int .i64 0,.int .i64 0,.bool false] 69));have g9:=r6.out _ _ _ g8 v5 (A9 (z3.alloc (.cells #[.string (bs b.1),.slice s b.2.length n,.int .i64 0,.int .i64 0,.bool false] 69)));have b8:=BB.br ((J.below t).below (Ac w4 (.cells #[.string (bs b.1),.slice s b.2.length n,.int .i64 0,.int .i64 0,.bool false] 69))) (z3.alloc (.cells #[.string (bs b.1),.slice s b.2.length n,.int .i64 0,.int .i64 0,.bool false] 69)) v5 q2;have p5:BY (w4.alloc (.cells #[.string (bs b.1),.slice s b.2.length n,.int .i64 0,.int .i64 0,.bool false] 69)) n0 (gA b) [.string (bs b.1),.slice s b.2.length n,.int .i64 0,.int .i64 0,.bool false]:=⟨_,rfl,by rw[G7];exact(Ah v1 t).alloc _⟩
              have b9:=BB.more (b:=B.map gA) (b2:=[gA b]) (rows2:=[[.string (bs b.1),.slice s b.2.length n,.int .i64 0,.int .i64 0,.bool false]]) (v:=.slice v8 B.length q6) t6 (fun i a cs e1 e2=>(t7 i a cs e1 e2).below (Ac w4 _)) rfl (fun i a cs e1 e2=>by
                cases i with
                |zero=>simp at e1 e2;subst e1 e2;exact p5
                |succ i=>simp at e1) (by rw[AK];exact z3.alloc _) (by rw[AK];simpa using c2) v5
              have k9:Y5 (.slice (some ⟨g7,0,none⟩) (B.length+1) g2) (.slice (some ⟨r,0,none⟩) L.length l):=by
                intro y e1 e2;simp only[Value.ownBlock,Al]at e1 e2;rcases c3 with e|e
                ·exact q2 y (by rw[<-e,e1]) (by simp only[Value.ownBlock,Al];exact e2)
                ·simp at e;omega
              exact⟨⟨j+1,B++[b],true,X,by go_num,rfl,k3.out,by rw[A8];exact b9,b8,k9,g9⟩,by simp[intOf];omega⟩
            ·obtain rfl:j=L.length:=by omega
             have r9:=Ao (A.out B Q q4);go_wp2_with fail;exact⟨⟨i+1,B,Q,G,by go_num,rfl,r9.out,q,z⟩,by simp[intOf];omega⟩
         ·have m4:(((f cs[i].head.name:Nat):Int) != ((k:Nat):Int))=true:=by rw[GG];omega
          have p4:=Ao (m.skip G (by rw[j4.out];exact q7));clear q7;generalize f cs[i].head.name=fk at*;go_wp2_with fail;exact⟨⟨i+1,H,ag,G,by go_num,rfl,p4.out,q,z⟩,by simp[intOf];omega⟩
        ·obtain rfl:i=cs.length:=by omega
         have m6:=m.st.bp hF;obtain⟨o1,o2,y6⟩:=q.form;obtain⟨o3,o4,y7⟩:=u5.out.form;rw[AK]at y6 y7;subst y6;subst y7
         have p2:Hid (2*(2040-H.length)+mV (.bool ag)<2*(2040-H0.length)+1):=by
            show _<_
            cases ag with
            |true=>have:=m.up rfl;simp only[mV];omega
            |false=>rw[(m.down rfl).1];simp only[mV];omega
         have r7:=Ao (show ag=false->∀c∈cs,IL cs c.head.name=k->∀b∈FP H c c.body [],b∈H by
            intro e c hc;have h:=(m.down e).2;rw[AL]at h
            exact h c hc)
         go_wp2_with fail;exact⟨⟨H,ag,rfl,m.st,r7,q,z⟩,by simpa[mE,mV]using p2.out⟩
    ·have t1:k=mx+1:=by omega
     have p1:=Ao (show ∀b,Ki cs b->IL cs b.1<k by
      intro b hb;obtain⟨_,_,d,hd,h3,_⟩:=QQ (F4 hF) (Jj hF) b hb;obtain⟨c,hc,rfl⟩:=List.mem_map.1 hd;have:=p3.out c hc;rw[h3,j4.out,t1];show f c.head.name<mx+1
      omega)
     have t2:¬((k:Nat):Int)<=((mx:Nat):Int):=by omega
     clear t1;obtain⟨p6,t5⟩:=r5.out _ z;go_wp2_with fail
     go_ret
     exact⟨_,rfl,H,q.mono t5 t5,Y.fl,fun b=>⟨fun hb=>(Y.ok b hb).1,fun hb=>Y.low b hb (p1.out b hb)⟩,p6⟩
theorem X9(ts:List B8):∀k:Nat,(∀t∈ts,Bo t=false)->LI k ts= -1:=by
 induction ts with
 |nil=>intro k _;rfl
 |cons x r q=>intro k h;rw[LI,Af (by rw[h x (by simp)];simp)];exact q (k+1) (fun t ht=>h t (by simp[ht]))
theorem bF(d:Bd):CR d.lits.length d.ts=(decide ((DV d).length=0)&&decide (d.lits.length=0)):=by
 rw[Hv,Cp,BE,BE];constructor
 ·intro h;exact⟨by rw[Qv Ny h];rfl,(Ny _ _ h).1⟩
 ·rintro⟨h1,h2⟩;unfold CR;rw[h2]
  have q:∀t∈d.ts,Bo t=false:=by
   intro t ht
   cases e:Bo t with
   |false=>rfl
   |true=>have:t∈DV d:=Gp.2 ⟨e,_,FC.2 (.inl rfl),ht⟩;rw[De h1]at this;simp at this
  show(decide (0=0)&&decide (LI 0 d.ts<0))=true;rw[X9 d.ts 0 q];rfl
theorem Y7(w:World)(base rb:Nat)(v:Value)(cs:List RC)(hV:Aw w rb [v] 76)(hL:Ck w base v cs)(hF:E2 cs):
 Calls prog 80 #[.pointer (some ⟨rb,0,none⟩)] w fun e w'=>∃s:Nat,e=.returned (.int .i64 (s:Nat))/\s<=10000000/\decide (2000<s)=decide (2000<Hb cs)/\Below w.heap.size w w':=by
 obtain⟨ao,cap,rfl⟩:∃ao cap,v=.slice ao cs.length cap:=by obtain⟨rows,ho,_,_⟩:=hL;exact Au ho
 have hn:=hF.bp;have H:=Ao (fun c hc=>(hF.bq c hc).small.bp:∀c∈cs,c.body.length<=4);have q8:=Ao (J7 hF);have k7:=GA cs H.out
 have h3:∀a∈A2 cs,a.ts.length<=3:=by
  intro a S;obtain⟨c,hc,S⟩:=Fg.1 S;have hs:=(hF.bq c hc).small;rcases S with rfl|S
  ·exact hs.head.bp
  ·exact(hs.body a S).bp
 have q5:=Ao (LP w base ao cap cs hL hn H.out);have j0:=Ao (Su q8.out);obtain⟨z,HZ⟩:∃z,Hid (EX (max 1 (CE (cs.map RC.d)).length) 2000 0 (cs.map RC.d)=z):=⟨_,Ao rfl⟩;have hz:decide (2000<Hb cs)=z:=by rw[<-HZ.out,M8 _ _ (by omega) _ 0 (by omega),B7];rfl
 rw[hz];clear hz;have X:=Ao (fun W v' B hG=>Zc W w.heap.size base v' B (A2 cs) false hG (by omega) h3);rw[j0.out]at X;obtain⟨y,q6⟩:∃y,Hid ((CE (cs.map RC.d)).length=y):=⟨_,Ao rfl⟩;rw[q6.out]at X HZ;have v0:w.cell? ⟨rb,0,none⟩=some (.slice ao cs.length cap):=hV.cell 0;have v3:=hV.lt;clear j0;go_enter func80,ntmps80;go_wp2_with (first|(go_at_call 30;refine(q5.out).mono ?_;rintro e w1 ⟨av,rfl,j,q4⟩;obtain⟨aa,k3,rfl⟩:=j.form)|(go_at_call 113;refine(X.out _ _ _ j).mono ?_;rintro e w2 ⟨tv,rfl,j4,v2,j3⟩;obtain⟨ta,tc,rfl⟩:=Au j4));have k1:=q4.size;have I:=q4.trans (j3.mono k1);have k5:y<=600:=by omega
 clear j4 j q5 X q6 q4 j3
 go_loopw [4,5] (fun sv iv wr=>∃(i s:Nat),i<=cs.length/\iv=.int .i64 i/\sv=.int .i64 s/\s<=2000000/\Hid (if s<=2000 then EX (max 1 y) 2000 s ((cs.drop i).map RC.d)=z else z=true)/\Below w.heap.size w wr) (fun _ iv _=>cs.length-(intOf iv).toNat)
 case atStart=>exact⟨0,0,by omega,rfl,rfl,by omega,HZ,I⟩
 case round=>
  clear HZ I;obtain⟨i,s,hi,rfl,rfl,k2,HX,M⟩:=hrel;have j5:=hV.below M;have q0:wr.cell? ⟨rb,0,none⟩=some (.slice ao cs.length cap):=j5.cell 0;have Y:=j5.lt;by_cases t:i<cs.length
  ·by_cases K:s<=2000
   ·have z3:((s:Nat):Int)<=2000:=by omega
    obtain⟨gc,tv,bo,bcap,y4,g,b0,b1,b2,b3,b4,b5,hT,hR⟩:=DZ (hL.below M) rfl i t;subst y4;have E:=H.out cs[i] (Aj t);have k4:cs.length<=cap:=by obtain⟨rows,ho,_,_⟩:=hL;exact(Gg ho).1
    have y7:cap<=9223372036854775807:=by
     obtain⟨rows,ho,_,_⟩:=hL;rcases ho.2 with⟨e,_⟩|⟨_,_,_,e,_,_,_,hc,_⟩
     ·simp at e
     ·simp only[Bx]at e;unfold maxLen at hc;omega
    have Q:=Ao (fun W (hW:Below wr.heap.size wr W) cp=>YB W base gc (i*6) cp cs[i] tv bo bcap (AH g hW.size) (by rw[hW.cell (p:=⟨gc,i*6,none⟩) g];exact b0) (by rw[hW.cell (p:=⟨gc,i*6+1,none⟩) g];exact b1) (by rw[hW.cell (p:=⟨gc,i*6+2,none⟩) g];exact b2) (by rw[hW.cell (p:=⟨gc,i*6+3,none⟩) g];exact b3) (by rw[hW.cell (p:=⟨gc,i*6+4,none⟩) g];exact b4) (by rw[hW.cell (p:=⟨gc,i*6+5,none⟩) g];exact b5) (Ah hT hW) (hR.below hW) E)
    have j7:∀a∈cs[i].head::cs[i].body,a.ts.length<=3:=by
     intro a S;refine h3 a (Fg.2 ⟨cs[i],Aj t,?_⟩);rcases List.mem_cons.1 S with rfl|S
     ·exact .inl rfl
     ·exact .inr S
    have q3:=Ao (W8 (q8.out cs[i] (Aj t)));have J:=Ao (bF cs[i].d);have q2:=Ao (show(cs.drop i).map RC.d=cs[i].d::(cs.drop (i+1)).map RC.d by rw[Aa t];rfl);obtain⟨c,j8⟩:∃c,cs[i]=c:=⟨_,rfl⟩;simp only[j8]at b5 Q j7 q3 J q2 E;clear j8 b0 b1 b2 b3 b4 hT hR;have n:=Ao (fun W v' B hG=>Zc W wr.heap.size base v' B (c.head::c.body) true hG (by simp;omega) j7);rw[q3.out]at n;obtain⟨nl,Z⟩:∃nl,Hid ((c.head::c.body).length=nl):=⟨_,Ao rfl⟩;rw[Z.out]at n;have j1:Hid (EX (max 1 y) 2000 s (c.d::(cs.drop (i+1)).map RC.d)=z):=by have h:=HX.out;rw[Ai K,q2.out]at h;exact h
    have q1:Hid (c.d.lits.length=c.body.length):=by show _=_;simp[RC.d]
    rw[q1.out]at J;have U:=Ao (show EX (max 1 y) 2000 s (c.d::(cs.drop (i+1)).map RC.d)=if CR c.body.length c.d.ts=true then EX (max 1 y) 2000 s ((cs.drop (i+1)).map RC.d) else if 2000<s+D0 (max 1 y) 2000 (DV c.d).length then true else EX (max 1 y) 2000 (s+D0 (max 1 y) 2000 (DV c.d).length) ((cs.drop (i+1)).map RC.d) by rw[EX,q1.out]);rw[j1.out]at U;generalize (DV c.d).length=V at*;clear j1 q2 q3 HX h3 q1;by_cases u:V=0/\c.body.length=0
    ·have HN:Hid (if s<=2000 then EX (max 1 y) 2000 s ((cs.drop (i+1)).map RC.d)=z else z=true):=by show(if s<=2000 then _ else _);rw[Ai K,U.out,Ai (by rw[J.out];simp[u.1,u.2])]
     obtain⟨z4,j6⟩:=u;subst z4;rw[j6]at b5;clear U J j6;go_wp2_with (first|(go_at_call 30;refine(Q.out _ (Ag _ _) _).mono ?_;rintro e w3 ⟨av,rfl,j,b⟩;obtain⟨j2,G,m⟩:=j.form;rw[Z.out]at m;subst m)|(go_at_call 113;refine(n.out _ _ _ j).mono ?_;rintro e w4 ⟨z8,rfl,f,l,x⟩;obtain⟨z5,z7,rfl⟩:=Au f;have q:=b.trans (x.mono b.size);have y0:w4.cell? ⟨rb,0,none⟩=some (.slice (some ⟨gc,0,none⟩) cs.length cap):=(by rw[q.cell (p:=⟨rb,0,none⟩) Y];exact q0);have y5:w4.cell? ⟨gc,i*6+5,none⟩=some (.slice bo 0 bcap):=(by rw[q.cell (p:=⟨gc,i*6+5,none⟩) g];exact b5);have A:rb<w4.heap.size:=AH Y q.size;have O:gc<w4.heap.size:=AH g q.size));exact⟨⟨i+1,s,t,by go_num,rfl,k2,HN,M.trans (q.mono M.size)⟩,by simp[intOf];omega⟩
    ·have N:Hid (if s+D0 (max 1 y) 2000 V<=2000 then EX (max 1 y) 2000 (s+D0 (max 1 y) 2000 V) ((cs.drop (i+1)).map RC.d)=z else z=true):=by
      show(if s+D0 (max 1 y) 2000 V<=2000 then _ else _);have h:=U.out;rw[Af (fun e=>u (by rw[J.out,Cp,BE,BE]at e;exact e))]at h;by_cases h2:2000<s+D0 (max 1 y) 2000 V
      ·rw[Ai h2]at h;rw[Af (by omega)];exact h
      ·rw[Af h2]at h;rw[Ai (by omega)];exact h.symm
     have y1:=Ao (P7 (max 1 y) 2000);have z2:=Rh (max 1 y) 2000 (by omega) (by omega);have v4:(max ((y:Nat):Int) 1)=((max 1 y:Nat):Int):=by omega
     have L:max 1 y<=600:=by omega
     have y2:Hid (∀k,D0 (max 1 y) 2000 k<=2000->D0 (max 1 y) 2000 (k+1)=D0 (max 1 y) 2000 k*max 1 y):=by intro k hk;rw[D0,Af (by omega)]
     have v5:D0 (max 1 y) 2000 0=1:=rfl;have q9:Hid (∀k,D0 (max 1 y) 2000 k<=1200000):=by intro k;have h1:=z2 k;have h2:=Nat.mul_le_mul_left 2000 L;omega
     clear U J z2;generalize hC:max 1 y=C at*;have P:¬(V=0/\c.body.length=0):=u;have q7:=Ao P;clear u P;obtain⟨MA,o⟩:∃MA,Hid (c.body.length=MA):=⟨_,Ao rfl⟩;rw[o.out]at b5 q7;have y6:MA<=4:=by rw[<-o.out];exact E
     clear E;rcases(show V=0/\0<MA\/0<V by have:=q7.out;omega) with⟨z4,v1⟩|v8
     ·have k8:¬((MA:Nat):Int)=0:=by omega
      have k9:(((MA:Nat):Int)==0)=false:=by rw[Az];omega
      go_wp2_with (first|(go_at_call 30;refine(Q.out _ (Ag _ _) _).mono ?_;rintro e w3 ⟨av,rfl,j,b⟩;obtain⟨j2,G,m⟩:=j.form;rw[Z.out]at m;subst m)|(go_at_call 113;refine(n.out _ _ _ j).mono ?_;rintro e w4 ⟨z8,rfl,f,l,x⟩;obtain⟨z5,z7,rfl⟩:=Au f;have q:=b.trans (x.mono b.size);have y0:w4.cell? ⟨rb,0,none⟩=some (.slice (some ⟨gc,0,none⟩) cs.length cap):=(by rw[q.cell (p:=⟨rb,0,none⟩) Y];exact q0);have y5:w4.cell? ⟨gc,i*6+5,none⟩=some (.slice bo MA bcap):=(by rw[q.cell (p:=⟨gc,i*6+5,none⟩) g];exact b5);have A:rb<w4.heap.size:=AH Y q.size;have O:gc<w4.heap.size:=AH g q.size));have r:=M.trans (q.mono M.size);have y3:V<=100:=by have h1:=l;rw[<-Z.out]at h1;simp only[List.length_cons,o.out]at h1;omega
      clear f j q b x Q n y0 y5 A O
      go_loopw [7,8] (fun nv kv wq=>∃(k:Nat),k<=V/\kv=.int .i64 k/\nv=.int .i64 (D0 C 2000 k:Nat)/\Below w.heap.size w wq) (fun _ kv _=>V-(intOf kv).toNat)
      case atStart=>exact⟨0,by omega,rfl,rfl,r⟩
      case round=>
       clear r;obtain⟨k,hk,rfl,rfl,R⟩:=hrel;have k0:=q9.out k;by_cases j9:k<V
       ·omega
       ·obtain rfl:k=V:=by omega
        generalize D0 C 2000 k=pk at*;go_wp2_with fail;exact⟨⟨i+1,s+pk,t,by go_num,by go_num,by omega,N,R⟩,by simp[intOf];omega⟩
     ·have v6:¬((V:Nat):Int)=0:=by omega
      have v7:(((V:Nat):Int)==0)=false:=by rw[Az];omega
      go_wp2_with (first|(go_at_call 30;refine(Q.out _ (Ag _ _) _).mono ?_;rintro e w3 ⟨av,rfl,j,b⟩;obtain⟨j2,G,m⟩:=j.form;rw[Z.out]at m;subst m)|(go_at_call 113;refine(n.out _ _ _ j).mono ?_;rintro e w4 ⟨z8,rfl,f,l,x⟩;obtain⟨z5,z7,rfl⟩:=Au f;have q:=b.trans (x.mono b.size);have y0:w4.cell? ⟨rb,0,none⟩=some (.slice (some ⟨gc,0,none⟩) cs.length cap):=(by rw[q.cell (p:=⟨rb,0,none⟩) Y];exact q0);have y5:w4.cell? ⟨gc,i*6+5,none⟩=some (.slice bo MA bcap):=(by rw[q.cell (p:=⟨gc,i*6+5,none⟩) g];exact b5);have A:rb<w4.heap.size:=AH Y q.size;have O:gc<w4.heap.size:=AH g q.size));have r:=M.trans (q.mono M.size);have y3:V<=100:=by have h1:=l;rw[<-Z.out]at h1;simp only[List.length_cons,o.out]at h1;omega
      clear f j q b x Q n y0 y5 A O
      go_loopw [7,8] (fun nv kv wq=>∃(k:Nat),k<=V/\kv=.int .i64 k/\nv=.int .i64 (D0 C 2000 k:Nat)/\Below w.heap.size w wq) (fun _ kv _=>V-(intOf kv).toNat)
      case atStart=>exact⟨0,by omega,rfl,rfl,r⟩
      case round=>
       clear r;obtain⟨k,hk,rfl,rfl,R⟩:=hrel;have k0:=q9.out k;by_cases j9:k<V
       ·by_cases z0:D0 C 2000 k<=2000
        ·have z9:=Ao (y2.out k z0);have k6:D0 C 2000 k*C<=1200000:=Ay (IS z0 L) (by omega);generalize D0 C 2000 k=pk at*;have z1:((pk:Nat):Int)<=2000:=by omega
         have y8:0<=((pk:Nat):Int)*((C:Nat):Int):=by rw[<-Int.natCast_mul];omega
         have y9:((pk:Nat):Int)*((C:Nat):Int)<=1200000:=by rw[<-Int.natCast_mul];omega
         go_wp2_with fail;refine⟨⟨k+1,j9,by go_num,?_,R⟩,by simp[intOf];omega⟩;rw[z9.out];go_num
        ·have HE:=Ao (show D0 C 2000 V=D0 C 2000 k from y1.out k V (by omega) hk);generalize D0 C 2000 k=pk at*;have z1:¬((pk:Nat):Int)<=2000:=by omega
         rw[HE.out]at N;go_wp2_with fail;exact⟨⟨i+1,s+pk,t,by go_num,by go_num,by omega,N,R⟩,by simp[intOf];omega⟩
       ·obtain rfl:k=V:=by omega
        generalize D0 C 2000 k=pk at*;go_wp2_with fail;exact⟨⟨i+1,s+pk,t,by go_num,by go_num,by omega,N,R⟩,by simp[intOf];omega⟩
   ·have hz:z=true:=by have h:=HX.out;rw[Af K]at h;exact h
    have z3:¬((s:Nat):Int)<=2000:=by omega
    subst hz;go_wp2_with fail
    go_ret
    exact⟨s,rfl,by omega,by omega,M⟩
  ·obtain rfl:i=cs.length:=by omega
   have hz:z=decide (2000<s):=by
    have h:=HX.out;by_cases K:s<=2000
    ·rw[Ai K,AR]at h;rw[<-h,A5 (by omega)];rfl
    ·rw[Af K]at h;rw[h,Bq (by omega)]
   subst hz;go_wp2_with fail
   go_ret
   exact⟨s,rfl,by omega,rfl,M⟩
theorem RW(w:World)(bb tb:Nat)(s:ByteArray)(n0 t0 t1 t2:ByteArray)(c:Int)(g b d t r z pl:Int)(q0:(z==0)=false)
 (f:Hid (∀W:World,Below w.heap.size w W->Calls prog 68 #[.pointer (some ⟨bb,0,none⟩),.string s] W fun e w'=>e=.returned (.tuple #[.agg #[.string n0,.int .i64 c,.string t0,.string t1,.string t2],.agg #[.int .i64 g,.int .i64 b,.int .i64 d,.int .i64 t,.int .i64 r],.int .i64 z,.int .i64 pl])/\Below W.heap.size W w')):
 Calls prog 78 #[.pointer (some ⟨bb,0,none⟩),.string s,.pointer (some ⟨tb,0,none⟩)] w fun e w'=>e=.returned (.agg #[.slice none 0 0,.int .i64 z,.int .i64 pl])/\Below w.heap.size w w':=by
 have y:=Ac w (.cells #[.slice none 0 0,.int .i64 0,.int .i64 0] 107);have l:=Aw.new w [.slice none 0 0,.int .i64 0,.int .i64 0] 107;go_enter func78,ntmps78;go_wp2_with (go_at_call 68;refine(f.out _ y).mono ?_;rintro e w1 ⟨rfl,k⟩;have q:=l.below k;have q1:=q.lt;have f1:=q.frozen;have a:w1.cell? ⟨w.heap.size,0,none⟩=some (.slice none 0 0):=q.cell 0;have o:w1.cell? ⟨w.heap.size,1,none⟩=some (.int .i64 0):=q.cell 1;have i:w1.cell? ⟨w.heap.size,2,none⟩=some (.int .i64 0):=q.cell 2);have j:=((((q.setCell 0 (.slice none 0 0)).setCell 1 (.int .i64 z)).setCell 2 (.int .i64 pl)).alloc (.cells #[.string n0,.int .i64 c,.string t0,.string t1,.string t2] 80)).alloc (.cells #[.int .i64 g,.int .i64 b,.int .i64 d,.int .i64 t,.int .i64 r] 141);have m:=j.cell 0;have n:=j.cell 1;have x:=j.cell 2;simp only[List.set_cons_zero,List.set_cons_succ,List.getElem?_cons_zero,List.getElem?_cons_succ]at m n x;have u:=((((((A3.ab (S:=fun _=>False) (y.trans (k.mono (by simp)))).setCell (p:=⟨w.heap.size,0,none⟩) (.inr (Ab _)) (.slice none 0 0)).setCell (p:=⟨w.heap.size,1,none⟩) (.inr (Ab _)) (.int .i64 z)).setCell (p:=⟨w.heap.size,2,none⟩) (.inr (Ab _)) (.int .i64 pl)).alloc (.cells #[.string n0,.int .i64 c,.string t0,.string t1,.string t2] 80)).alloc (.cells #[.int .i64 g,.int .i64 b,.int .i64 d,.int .i64 t,.int .i64 r] 141)).below (Ab _) (fun _ h=>h.elim);refine Aq (v:=.agg #[.slice none 0 0,.int .i64 z,.int .i64 pl]) ?_ rfl ⟨rfl,u⟩;clear u j q a o i;simp[results,results78,go_sem,m,n,x]
theorem RV(w:World)(bb tb:Nat)(s:ByteArray)(n0 t0 t1 t2:ByteArray)(c:Int)(f a o i l:Int)(ao:Option Addr)(n cap:Nat)(hb:Aw w bb [.slice ao n cap] 59)
 (K:Hid (∀W:World,Below w.heap.size w W->Calls prog 68 #[.pointer (some ⟨bb,0,none⟩),.string s] W fun e w'=>e=.returned (.tuple #[.agg #[.string n0,.int .i64 c,.string t0,.string t1,.string t2],.agg #[.int .i64 f,.int .i64 a,.int .i64 o,.int .i64 i,.int .i64 l],.int .i64 0,.int .i64 0])/\Below W.heap.size W w'))
 (Y:Hid (∀W:World,Below w.heap.size w W->Calls prog 109 #[.slice ao n cap,.int .i64 2000] W fun e w'=>e=.returned (.bool true)/\Below W.heap.size W w')):
 Calls prog 78 #[.pointer (some ⟨bb,0,none⟩),.string s,.pointer (some ⟨tb,0,none⟩)] w fun e w'=>e=.returned (.agg #[.slice none 0 0,.int .i64 1,.int .i64 0])/\Below w.heap.size w w':=by
 have u:=Ac w (.cells #[.slice none 0 0,.int .i64 0,.int .i64 0] 107);have B:=Aw.new w [.slice none 0 0,.int .i64 0,.int .i64 0] 107;go_enter func78,ntmps78;go_wp2_with (first|(go_at_call 68;refine(K.out _ u).mono ?_;rintro e w1 ⟨rfl,g⟩;have j:Below w.heap.size w w1:=u.trans (g.mono (by simp));have x:=j.size;have t:Aw w1 bb [.slice ao n cap] 59:=hb.below j;have b0:w1.cell? ⟨bb,0,none⟩=some (.slice ao n cap):=t.cell 0;have q1:=t.lt;have k:=B.below g;have q0:=k.lt;have y:=(j.alloc x (.cells #[.string n0,.int .i64 c,.string t0,.string t1,.string t2] 80)).alloc (by simp;omega) (.cells #[.int .i64 f,.int .i64 a,.int .i64 o,.int .i64 i,.int .i64 l] 141);have m:=(k.alloc (.cells #[.string n0,.int .i64 c,.string t0,.string t1,.string t2] 80)).alloc (.cells #[.int .i64 f,.int .i64 a,.int .i64 o,.int .i64 i,.int .i64 l] 141))|(go_at_call 109;refine(Y.out _ y).mono ?_;rintro e w3 ⟨rfl,b⟩;have d:Below w.heap.size w w3:=y.trans (b.mono y.size);have q:=m.below b;have f3:=q.frozen;have V:w3.cell? ⟨w.heap.size,0,none⟩=some (.slice none 0 0):=q.cell 0;have U:w3.cell? ⟨w.heap.size,1,none⟩=some (.int .i64 0):=q.cell 1;have G:w3.cell? ⟨w.heap.size,2,none⟩=some (.int .i64 0):=q.cell 2));have z:=((q.setCell 0 (.slice none 0 0)).setCell 1 (.int .i64 1)).setCell 2 (.int .i64 0);have Q:=z.cell 0;have J:=z.cell 1;have Z:=z.cell 2;simp only[List.set_cons_zero,List.set_cons_succ,List.getElem?_cons_zero,List.getElem?_cons_succ]at Q J Z;have r:=((((A3.ab (S:=fun _=>False) d).setCell (p:=⟨w.heap.size,0,none⟩) (.inr (Ab _)) (.slice none 0 0)).setCell (p:=⟨w.heap.size,1,none⟩) (.inr (Ab _)) (.int .i64 1)).setCell (p:=⟨w.heap.size,2,none⟩) (.inr (Ab _)) (.int .i64 0)).below (Ab _) (fun _ h=>h.elim);refine Aq (v:=.agg #[.slice none 0 0,.int .i64 1,.int .i64 0]) ?_ rfl ⟨rfl,r⟩;clear r z k m q V U G;simp[results,results78,go_sem,Q,J,Z]
theorem Uk(w:World)(bb tb:Nat)(s:ByteArray)(n0 t0 t1 t2:ByteArray)(c:Int)(J Z Y K V:Int)(ao:Option Addr)(Q cap:Nat)(hb:Aw w bb [.slice ao Q cap] 59)(R P:Value->World->Prop)
 (O:Hid (∀W:World,Below w.heap.size w W->Calls prog 68 #[.pointer (some ⟨bb,0,none⟩),.string s] W fun e w'=>e=.returned (.tuple #[.agg #[.string n0,.int .i64 c,.string t0,.string t1,.string t2],.agg #[.int .i64 J,.int .i64 Z,.int .i64 Y,.int .i64 K,.int .i64 V],.int .i64 0,.int .i64 0])/\Below W.heap.size W w'))
 (E:Hid (∀W:World,Below w.heap.size w W->Calls prog 109 #[.slice ao Q cap,.int .i64 2000] W fun e w'=>e=.returned (.bool false)/\Below W.heap.size W w'))
 (X:Hid (∀W:World,Below w.heap.size w W->Aw W w.heap.size [.slice none 0 0,.int .i64 0,.int .i64 0] 107->Calls prog 111 #[.pointer (some ⟨tb,0,none⟩),.agg #[.string n0,.int .i64 c,.string t0,.string t1,.string t2]] W fun e w'=>∃v,e=.returned v/\R v w'/\Aw w' w.heap.size [.slice none 0 0,.int .i64 0,.int .i64 0] 107))
 (A:Hid (∀(v:Value) (W:World),R v W->Aw W w.heap.size [.slice none 0 0,.int .i64 0,.int .i64 0] 107->Calls prog 110 #[v] W fun e w'=>∃m r t,e=.returned (.slice m r t)/\P (.slice m r t) w'/\Aw w' w.heap.size [.slice none 0 0,.int .i64 0,.int .i64 0] 107)):
 Calls prog 78 #[.pointer (some ⟨bb,0,none⟩),.string s,.pointer (some ⟨tb,0,none⟩)] w fun e w'=>∃v w3,e=.returned (.agg #[v,.int .i64 0,.int .i64 0])/\P v w3/\A3 (fun q=>q=w.heap.size) w3 w':=by
 have n:=Ac w (.cells #[.slice none 0 0,.int .i64 0,.int .i64 0] 107);have L:=Aw.new w [.slice none 0 0,.int .i64 0,.int .i64 0] 107;go_enter func78,ntmps78;go_wp2_with (first|(go_at_call 68;refine(O.out _ n).mono ?_;rintro e w1 ⟨rfl,x⟩;have k:Below w.heap.size w w1:=n.trans (x.mono (by simp));have B:=k.size;have a:Aw w1 bb [.slice ao Q cap] 59:=hb.below k;have b0:w1.cell? ⟨bb,0,none⟩=some (.slice ao Q cap):=a.cell 0;have q1:=a.lt;have d:=L.below x;have q0:=d.lt;have g:=(k.alloc B (.cells #[.string n0,.int .i64 c,.string t0,.string t1,.string t2] 80)).alloc (by simp;omega) (.cells #[.int .i64 J,.int .i64 Z,.int .i64 Y,.int .i64 K,.int .i64 V] 141);have i:=(d.alloc (.cells #[.string n0,.int .i64 c,.string t0,.string t1,.string t2] 80)).alloc (.cells #[.int .i64 J,.int .i64 Z,.int .i64 Y,.int .i64 K,.int .i64 V] 141))|(go_at_call 109;refine(E.out _ g).mono ?_;rintro e w3 ⟨rfl,b⟩;have f:Below w.heap.size w w3:=g.trans (b.mono g.size);have j:=i.below b;have f3:=j.frozen;have c0:w3.cell? ⟨w.heap.size,0,none⟩=some (.slice none 0 0):=j.cell 0;have c1:w3.cell? ⟨w.heap.size,1,none⟩=some (.int .i64 0):=j.cell 1;have c2:w3.cell? ⟨w.heap.size,2,none⟩=some (.int .i64 0):=j.cell 2;have y:=((Aw.new w1 [.string n0,.int .i64 c,.string t0,.string t1,.string t2] 80).alloc (.cells #[.int .i64 J,.int .i64 Z,.int .i64 Y,.int .i64 K,.int .i64 V] 141)).below b;have e0:w3.cell? ⟨w1.heap.size,0,none⟩=some (.string n0):=y.cell 0;have e1:w3.cell? ⟨w1.heap.size,1,none⟩=some (.int .i64 c):=y.cell 1;have e2:w3.cell? ⟨w1.heap.size,2,none⟩=some (.string t0):=y.cell 2;have e3:w3.cell? ⟨w1.heap.size,3,none⟩=some (.string t1):=y.cell 3;have e4:w3.cell? ⟨w1.heap.size,4,none⟩=some (.string t2):=y.cell 4)|(go_at_call 111;refine(X.out _ f j).mono ?_;rintro e w4 ⟨v4,rfl,U,l⟩)|(go_at_call 110;refine(A.out _ _ U l).mono ?_;rintro e w5 ⟨m,r,t,rfl,G,z⟩;have f5:=z.frozen;have g0:w5.cell? ⟨w.heap.size,0,none⟩=some (.slice none 0 0):=z.cell 0;have I:w5.cell? ⟨w.heap.size,1,none⟩=some (.int .i64 0):=z.cell 1;have g2:w5.cell? ⟨w.heap.size,2,none⟩=some (.int .i64 0):=z.cell 2));have u:=((z.setCell 0 (.slice m r t)).setCell 1 (.int .i64 0)).setCell 2 (.int .i64 0);have C:=u.cell 0;have M:=u.cell 1;have N:=u.cell 2;simp only[List.set_cons_zero,List.set_cons_succ,List.getElem?_cons_zero,List.getElem?_cons_succ]at C M N;have o:=(((A3.ab (S:=fun q=>q=w.heap.size) (Ag w5.heap.size w5)).setCell (p:=⟨w.heap.size,0,none⟩) (.inl rfl) (.slice m r t)).setCell (p:=⟨w.heap.size,1,none⟩) (.inl rfl) (.int .i64 0)).setCell (p:=⟨w.heap.size,2,none⟩) (.inl rfl) (.int .i64 0);refine Aq (v:=.agg #[.slice m r t,.int .i64 0,.int .i64 0]) ?_ rfl ⟨_,w5,rfl,G,o⟩;clear o u d i j l z g0 I g2;simp[results,results78,go_sem,C,M,N]
theorem cJ(w:World)(bb:Nat)(s:ByteArray)(ao:Option Addr)(d cap:Nat)(hb:Aw w bb [.slice ao d cap] 59)(t:Nat->World->Prop)(r:Value->Int->Int->World->Prop)
 (c:Hid (∀W:World,Below w.heap.size w W->Calls prog 79 #[.slice ao d cap] W fun e w'=>∃tb,e=.returned (.pointer (some ⟨tb,0,none⟩))/\t tb w'))
 (p:Hid (∀(tb:Nat) (W:World),t tb W->Calls prog 78 #[.pointer (some ⟨bb,0,none⟩),.string s,.pointer (some ⟨tb,0,none⟩)] W fun e w'=>∃y z j q pl,e=.returned (.agg #[.slice y z j,.int .i64 q,.int .i64 pl])/\r (.slice y z j) q pl w')):
 Calls prog 49 #[.pointer (some ⟨bb,0,none⟩),.string s] w fun e w'=>∃y z j q pl w1,e=.returned (.tuple #[.slice y z j,.int .i64 q,.int .i64 pl])/\r (.slice y z j) q pl w1/\Below w1.heap.size w1 w':=by
 have b0:w.cell? ⟨bb,0,none⟩=some (.slice ao d cap):=hb.cell 0;go_enter func49,ntmps49;go_wp2_with (first|(go_at_call 79;refine(c.out _ (Ag _ _)).mono ?_;rintro e w1 ⟨tb,rfl,g⟩)|(go_at_call 78;refine(p.out tb _ g).mono ?_;rintro e w2 ⟨y,z,j,q,pl,rfl,b⟩));have k:=Aw.new w2 [.slice y z j,.int .i64 q,.int .i64 pl] 107;have u:=Ac w2 (.cells #[.slice y z j,.int .i64 q,.int .i64 pl] 107);have g0:=k.cell 0;have m:=k.cell 1;have g2:=k.cell 2;simp only[List.getElem?_cons_zero,List.getElem?_cons_succ]at g0 m g2;go_region
 all_goals go_wp2_with fail
 all_goals refine Aq (v:=.tuple #[.slice y z j,.int .i64 q,.int .i64 pl]) (by simp[results,results49,go_sem]) rfl ⟨y,z,j,q,pl,w2,rfl,b,u.drew⟩
end
section
open Go.RowKit
theorem cT{nm cl:List B8}{n:Int}{x:R3}{q:B8}{ts:List B8}(h:Uu nm cl n x (q,ts)):RX (bs q) (ts.length:Nat) cl x=FF (q,ts):=by
 have j:cl.getD x.a.toNat []=AO ts 0:=by rw[Ap,h.t0];rfl
 have h1:cl.getD x.b.toNat []=AO ts 1:=by rw[Ap,h.t1];rfl
 have h2:cl.getD x.c.toNat []=AO ts 2:=by rw[Ap,h.t2];rfl
 unfold RX;rw[j,h1,h2];rfl
theorem NT{nm cl:List B8}{n:Int}{q:B8}{k:Nat}(j:k<=3):∀(rows:List R3),(∀x∈rows,∃ts,ts.length=k/\Uu nm cl n x (q,ts))->rows.flatMap (RX (bs q) (k:Nat) cl)=(rows.map (RI cl q k)).flatMap FF
 |[],_=>rfl
 |x::r,h=>by obtain⟨ts,z,hd⟩:=h x (by simp);have h1:=cT hd;have h2:=hd.ey (by simp only;omega);simp only at h2;rw[Cg,A6,Cg,NT j r (fun y v=>h y (by simp[v])),<-z,h1,h2]
end
section
open Go.RowKit
variable [DecidableEq R3] [DecidableEq A4]
theorem Rn{N n A a:Nat}(h1:N<=n)(h2:A<=a):N*A*A*A<=n*a*a*a:=IS (IS (IS h1 h2) h2) h2
theorem kK{N C:Nat}(q:N<=210)(hC:C<=620):nW N C:=by
 refine⟨?_,?_,?_,by omega,by omega⟩
 ·exact Ay (Rn q (show C+3<=623 by omega)) (by decide)
 ·exact Ay (Rn (Ab 1) hC) (by decide)
 ·exact Ay (Rn q (show 4*C<=2480 by omega)) (by decide)
theorem eF{ds:List Bd}{nm cl:List B8}{ar:B8->Nat}{M:BA->Prop}{lay:B8->Nat}(hS:FT ds M)(hC:ML ds nm cl ar)(j:MJ lay ds)(h3:∀d∈ds,d.ts.length<=3/\∀l∈d.lits,l.ts.length<=3)(hn:(Du [] [] ds).1<+:nm)(hc:(Du [] [] ds).2<+:cl)(q:nm.length<=210)(q0:cl.length<=610)(hd:ds.length<=40)(m0 m1 ru:Value):
 Nn (YU nm cl M) (XW lay nm) nm.length (cl.length+1) ⟨m0,m1,ru,nm,cl,EE [] [] ds⟩:=by
 obtain⟨r1,z,_⟩:=PY ds [] [] nm cl h3 hn hc Cw Cw;refine⟨SB hS hC r1 z,?_,kK q (by omega),?_⟩
 ·have:=UT hC j r1;simpa using this
 ·have:=NR [] [] ds;simp only at this⊢;omega
theorem Wc(hcut:JQ){ds:List Bd}{ar:B8->Nat}{M:BA->Prop}{lay:B8->Nat}{base tb:Nat}{m1 ru:Value}{p r:List B8}{w:World}{own:Bu}{V:TV}{S:List A1}(h:Fi w own base tb V ⟨.int .i32 0,m1,ru,p,r,EE [] [] ds⟩ (S.map A1.q) S (BO S))(z:B8)(ats:List B8)(f:z.length<=12)(J:∀i,(AO ats i).length<=12)
 (x:W3)(K:Hid (x=CY (p,r,[]) z ats))(hS:FT ds M)(hC:ML ds x.1 x.2.1 ar)(B:MJ lay ds)(h3:∀d∈ds,d.ts.length<=3/\∀l∈d.lits,l.ts.length<=3)(hn:(Du [] [] ds).1<+:x.1)(hc:(Du [] [] ds).2<+:x.2.1)(q1:p.length<=210)(q0:r.length<=610)(Q:x.1.length<=210)(o:x.2.1.length<=610)(hd:ds.length<=40)
 (Y:KW x.1 x.2.1 ar z ats)(Z:∀t,Bo t=true->t∈ats->t∈x.2.2)(U:Hf (YU x.1 x.2.1 M) x.1.length (x.2.1.length+1:Nat) S)(hq:YQ x.1.length (x.2.1.length+1) (CX x.1 x.2.1 x.2.2 z ats)):
 Calls prog 111 #[.pointer (some ⟨tb,0,none⟩),.agg #[.string (bs z),.int .i64 (ats.length:Nat),.string (bs (AO ats 0)),.string (bs (AO ats 1)),.string (bs (AO ats 2))]] w fun e w'=>∃(v:Value) (own':Bu) (S':List A1) (rows:List R3),e=.returned v/\WX (YU x.1 x.2.1 M) x.1.length (x.2.1.length+1) base tb ⟨.int .i32 0,m1,ru,x.1,x.2.1,EE [] [] ds⟩ w own S (CX x.1 x.2.1 x.2.2 z ats) (bs z) (ats.length:Nat) v w' own' S' rows/\
  w'.ownsRow w.heap.size 80 5 v (rows.map (RI x.2.1 z ats.length)).length ((rows.map (RI x.2.1 z ats.length)).flatMap FF)/\(rows.map (RI x.2.1 z ats.length)).Nodup/\∀b,b∈rows.map (RI x.2.1 z ats.length)↔M b/\∃s,b=(z,Ct s ats):=by
 refine(YK hcut h z ats (ats.length:Nat) f J (by omega) (by omega) x K _ (Ao rfl) (eF hS hC B h3 hn hc Q o hd _ _ _) U hq ?_).mono ?_
 ·rintro y ⟨a,_,j⟩;have lt:∀{i:Nat} {u:B8},x.2.1[i]? =some u->i<x.2.1.length:=fun e=>(List.getElem?_eq_some_iff.1 e).1;exact⟨j.g,lt j.t0,lt j.t1,lt j.t2⟩
 ·rintro e w' ⟨v,own',S',rows,rfl,c⟩;have m:=Ui hS hC Y Z c.fl c.mem;have G:=Y.len;have k:=c.row;rw[NT (nm:=x.1) (n:=(CX x.1 x.2.1 x.2.2 z ats).n) G rows ?_]at k
  ·exact⟨v,own',S',rows,rfl,c,by rw[AK];exact k,m.1,m.2⟩
  ·intro y R;obtain⟨⟨a,m,j⟩,σ,P,rfl⟩:=(c.mem y).1 R;obtain⟨e,_⟩:=Ka Y P (Kx hS hC m) j;exact⟨_,by simp[Ct],e▸j⟩
theorem kD{nm cl vs:List B8}{ar:B8->Nat}{q:B8}{ats:List B8}(j:KW nm cl ar q ats):YQ nm.length (cl.length+1) (CX nm cl vs q ats):=by
 refine⟨⟨F0 _,?_⟩,?_⟩
 ·have:=Ri nm q j.name;simp only[CX];omega
 ·intro y k;obtain⟨i,z,rfl⟩:=I7.1 k;have:=TW (vs:=vs) (j.ae i z);simpa using this
structure Uz(ds:List Bd)(ar:B8->Nat)(an:B8)(ats:List B8):Prop where
 three:∀d∈ds,d.ts.length<=3/\∀l∈d.lits,l.ts.length<=3
 four:∀d∈ds,d.lits.length<=4
 arity:∀d∈ds,d.ts.length=ar d.name/\∀l∈d.lits,l.ts.length=ar l.name
 safe:∀d∈ds,∀t,Bo t=true->(t∈d.ts\/∃l∈d.lits,l.neg=true/\t∈l.ts)->∃l∈d.lits,l.neg=false/\t∈l.ts
 q3:ats.length<=3
 qa:ats.length=ar an
 many:ds.length<=40
theorem cK{ds:List Bd}{ar:B8->Nat}{q:B8}{ats:List B8}(h:Uz ds ar q ats)(x:W3)(v:Hid (x=CY ((Du [] [] ds).1,(Du [] [] ds).2,[]) q ats)):
 ML ds x.1 x.2.1 ar/\KW x.1 x.2.1 ar q ats/\(Du [] [] ds).1<+:x.1/\(Du [] [] ds).2<+:x.2.1/\(∀t,Bo t=true->t∈ats->t∈x.2.2):=by
 have y:LY ((Du [] [] ds).1,(Du [] [] ds).2,[]) x:=by rw[v.out];exact MD _ _ _
 have g:GD x q ats:=by rw[v.out];exact GS _ _ _
 have j:Wi x:=by rw[v.out];have:=cV (nm:=[]) (cl:=[]) Cw Cw ds;exact KE ⟨this.1,this.2,Cw⟩ q ats
 obtain⟨_,_,k⟩:=PY ds [] [] x.1 x.2.1 h.three y.a y.b Cw Cw;refine⟨⟨j.a,j.b,?_,?_,h.four,h.safe⟩,⟨g.n,h.q3,h.qa,fun i u=>(g.t i u).2⟩,y.a,y.b,?_⟩
 ·intro d hd;exact⟨(k d hd).1.1,(h.three d hd).1,(h.arity d hd).1,(k d hd).1.2⟩
 ·intro d hd l z;exact⟨((k d hd).2 l z).1,(h.three d hd).2 l z,(h.arity d hd).2 l z,((k d hd).2 l z).2⟩
 ·intro t ht r;obtain⟨i,u,rfl⟩:=List.mem_iff_getElem.1 r;have e:AO ats i=ats[i]:=by simp[AO,u]
  have h3:=h.q3;have:=(g.t i (by omega)).1;rw[e]at this;exact this ht
theorem Uh(hcut:JQ){ds:List Bd}{ar:B8->Nat}{M:BA->Prop}{lay:B8->Nat}{base tb:Nat}{m1 ru:Value}{w:World}{own:Bu}{V:TV}(h:Fi w own base tb V ⟨.int .i32 0,m1,ru,(Du [] [] ds).1,(Du [] [] ds).2,EE [] [] ds⟩ [] [] 0)(j:B8)(ats:List B8)(u:j.length<=12)(t:∀i,(AO ats i).length<=12)
 (hS:FT ds M)(m:MJ lay ds)(hq:Uz ds ar j ats):
 Calls prog 111 #[.pointer (some ⟨tb,0,none⟩),.agg #[.string (bs j),.int .i64 (ats.length:Nat),.string (bs (AO ats 0)),.string (bs (AO ats 1)),.string (bs (AO ats 2))]] w fun e w'=>∃(v:Value) (own':Bu) (q:List BA),e=.returned v/\BX (fun _=>True) own w own' w'/\(∀b,v.ownBlock=some b->own' b=none)/\
  w'.ownsRow w.heap.size 80 5 v q.length (q.flatMap FF)/\q.Nodup/\∀b,b∈q↔M b/\∃s,b=(j,Ct s ats):=by
 obtain⟨x,y⟩:∃x,Hid (x=CY ((Du [] [] ds).1,(Du [] [] ds).2,[]) j ats):=⟨_,rfl⟩;obtain⟨hC,c,hn,hc,r⟩:=cK hq x y;have k:=Ul [] [] ds hq.four;have z:iQ ((Du [] [] ds).1,(Du [] [] ds).2,[]) x 1:=by rw[y.out];exact KF _ _ _
 have g:=z.a;have d:=z.b;have n:=hq.many;simp only[List.length_nil,B7]at k g d;refine(Wc hcut (S:=[]) h j ats u t x y hS hC m hq.three hn hc (by omega) (by omega) (by omega) (by omega) n c r ⟨Cw,by simp,by simp,by simp,by simp,by simp⟩ (kD c)).mono ?_;rintro e w' ⟨v,own',S',rows,rfl,p,h1,h2,h3⟩;exact⟨v,own',_,rfl,p.aw,p.free,h1,h2,h3⟩
theorem ZG{own:Bu}{base tb:Nat}{w:World}{V:TV}{D:TD}{qs:List A4}{S:List A1}{sz n:Nat}(h:Fi w own base tb V D qs S sz)(hn:w.heap.size<=n):own n=none:=by
 cases e:own n with
 |none=>rfl
 |some o=>exact absurd (h.ok.lt _ o e).2 (by omega)
theorem Uj(hcut:JQ){ds:List Bd}{ar:B8->Nat}{M:BA->Prop}{lay:B8->Nat}(w:World)(base bb:Nat)(s:ByteArray)(ao:Option Addr)(cap:Nat)(hb:Aw w bb [.slice ao ds.length cap] 59)(H:AY w base (.slice ao ds.length cap) ds)(hW:∀d∈ds,d.WF)(g:B8)(ats:List B8)(l:g.length<=12)(C:∀i,(AO ats i).length<=12)(X S E A O:Int)
 (hS:FT ds M)(h:MJ lay ds)(hq:Uz ds ar g ats)(q0:DH (max 1 (CE ds).length) ds<=2000)(Z:∀b,M b->(∃s,b=(g,Ct s ats))->∀t∈b.2,t.length<=12)(J:∀j:List BA,j.Nodup->(∀b,b∈j↔M b/\∃s,b=(g,Ct s ats))->j.length<=100000000000)
 (I:Hid (∀W:World,Below w.heap.size w W->Calls prog 68 #[.pointer (some ⟨bb,0,none⟩),.string s] W fun e w'=>e=.returned (.tuple #[.agg #[.string (bs g),.int .i64 (ats.length:Nat),.string (bs (AO ats 0)),.string (bs (AO ats 1)),.string (bs (AO ats 2))],.agg #[.int .i64 X,.int .i64 S,.int .i64 E,.int .i64 A,.int .i64 O],.int .i64 0,.int .i64 0])/\Below W.heap.size W w'))
 (tb:Nat)(own:Bu)(V:TV)(m1 ru:Value)(U:Fi w own tb tb V ⟨.int .i32 0,m1,ru,(Du [] [] ds).1,(Du [] [] ds).2,EE [] [] ds⟩ [] [] 0):
 Calls prog 78 #[.pointer (some ⟨bb,0,none⟩),.string s,.pointer (some ⟨tb,0,none⟩)] w fun e w'=>∃p n r,e=.returned (.agg #[.slice p n r,.int .i64 0,.int .i64 0])/\∃j:List BA,j.Nodup/\(∀b,b∈j↔M b/\∃s,b=(g,Ct s ats))/\w'.ownsRow w.heap.size 9 1 (.slice p n r) j.length (((j.map CL).mergeSort fun x y=>decide (x<=y)).map fun z=>.string (bs z))/\Below tb w w':=by
 have Q:=U.ok.base
 refine(Uk w bb tb s _ _ _ _ _ X S E A O ao ds.length cap hb
  (fun v W=>∃j:List BA,j.Nodup/\(∀b,b∈j↔M b/\∃s,b=(g,Ct s ats))/\W.ownsRow w.heap.size 80 5 v j.length (j.flatMap FF)/\w.heap.size<W.heap.size/\Below tb w W)
  (fun v W=>∃(p:Option Addr) (n r:Nat) (j:List BA) (B:Nat),v=.slice p n r/\w.heap.size<B/\j.Nodup/\(∀b,b∈j↔M b/\∃s,b=(g,Ct s ats))/\W.ownsRow B 9 1 v j.length (((j.map CL).mergeSort fun x y=>decide (x<=y)).map fun z=>.string (bs z))/\Below tb w W)
  I (Ao ?_) (Ao ?_) (Ao ?_)).mono ?_
 ·intro W u;have:=Qm W base ao cap ds 2000 (by omega) (by omega) (H.below u) hW hq.many;rw[A5 (by omega)]at this;exact this
 ·intro W u K;refine(Uh hcut (U.below u) g ats l C hS h hq).mono ?_;rintro e w' ⟨v,own',j,rfl,P,hf,m,h1,h2⟩;have hs:=P.only.size;have c:=K.lt;exact⟨v,rfl,⟨j,h1,h2,m.mono u.size,by omega,(u.mono Q).trans (P.only.below (Ay Q u.size) (fun k ⟨o,e,_⟩=>(U.ok.lt k o e).1))⟩,K.aw P (ZG U (Ab _))⟩
 ·rintro v W ⟨j,h1,h2,m,c,u⟩ K;obtain⟨G,f,rfl⟩:=Au m;refine(Py W w.heap.size G f j m ?_ (J j h1 h2)).mono ?_
  ·intro b R;obtain⟨L,s,e⟩:=(h2 b).1 R;have:=Z b L ⟨s,e⟩;subst e;exact⟨l,by have:=hq.q3;simp only[Ct,AK];omega,this⟩
  ·rintro e w' ⟨v',rfl,Y,a⟩;obtain⟨p,r,rfl⟩:=Au Y;exact⟨p,_,r,rfl,⟨p,_,r,j,W.heap.size,rfl,c,h1,h2,Y,u.trans (a.mono (by have:=u.size;omega))⟩,K.below a⟩
 ·rintro e w' ⟨v,w3,rfl,⟨p,n,r,j,B,rfl,c,h1,h2,m,u⟩,N⟩;refine⟨p,n,r,rfl,j,h1,h2,(BI m N (fun q hq e=>?_)).mono (by omega),u.trans (N.below (by have:=u.size;omega) (fun k e=>by omega))⟩;have:=(m.lt q hq).1;omega
theorem cN(hcut:JQ){ds:List Bd}{ar:B8->Nat}{M:BA->Prop}{lay:B8->Nat}(w:World)(base bb:Nat)(s:ByteArray)(ao:Option Addr)(cap:Nat)(hb:Aw w bb [.slice ao ds.length cap] 59)(Z:AY w base (.slice ao ds.length cap) ds)(hW:∀d∈ds,d.WF)(u:B8)(ats:List B8)(f:u.length<=12)(l:∀i,(AO ats i).length<=12)(Y K U G B:Int)
 (hS:FT ds M)(N:MJ lay ds)(hq:Uz ds ar u ats)(Q:DH (max 1 (CE ds).length) ds<=2000)(m:∀b,M b->(∃s,b=(u,Ct s ats))->∀t∈b.2,t.length<=12)(c:∀q:List BA,q.Nodup->(∀b,b∈q↔M b/\∃s,b=(u,Ct s ats))->q.length<=100000000000)
 (R:Hid (∀W:World,Below w.heap.size w W->Calls prog 68 #[.pointer (some ⟨bb,0,none⟩),.string s] W fun e w'=>e=.returned (.tuple #[.agg #[.string (bs u),.int .i64 (ats.length:Nat),.string (bs (AO ats 0)),.string (bs (AO ats 1)),.string (bs (AO ats 2))],.agg #[.int .i64 Y,.int .i64 K,.int .i64 U,.int .i64 G,.int .i64 B],.int .i64 0,.int .i64 0])/\Below W.heap.size W w')):
 Calls prog 49 #[.pointer (some ⟨bb,0,none⟩),.string s] w fun e w'=>∃p r g,e=.returned (.tuple #[.slice p r g,.int .i64 0,.int .i64 0])/\∃q:List BA,q.Nodup/\(∀b,b∈q↔M b/\∃s,b=(u,Ct s ats))/\w'.ownsRow w.heap.size 9 1 (.slice p r g) q.length (((q.map CL).mergeSort fun x y=>decide (x<=y)).map fun z=>.string (bs z))/\Below w.heap.size w w':=by
 refine(cJ w bb s ao ds.length cap hb
  (fun tb W=>w.heap.size<=tb/\Below w.heap.size w W/\∃own V ru,Fi W own tb tb V ⟨.int .i32 0,.int .u32 0,ru,(Du [] [] ds).1,(Du [] [] ds).2,EE [] [] ds⟩ [] [] 0)
  (fun v J pl W=>J=0/\pl=0/\∃q:List BA,q.Nodup/\(∀b,b∈q↔M b/\∃s,b=(u,Ct s ats))/\W.ownsRow w.heap.size 9 1 v q.length (((q.map CL).mergeSort fun x y=>decide (x<=y)).map fun z=>.string (bs z))/\Below w.heap.size w W)
  (Ao ?_) (Ao ?_)).mono ?_
 ·intro W j;refine(jE W base ao cap ds (Z.below j) hW hq.many).mono ?_;rintro e w' ⟨own,V,ru,rfl,n,k⟩;exact⟨_,rfl,j.size,j.trans (k.mono j.size),own,V,ru,n⟩
 ·rintro tb W ⟨o,j,own,V,ru,n⟩;refine(Uj hcut W base bb s ao cap (hb.below j) (Z.below j) hW u ats f l Y K U G B hS N hq Q m c (Ao fun P C=>R.out P (j.trans (C.mono j.size))) tb own V _ ru n).mono ?_;rintro e w' ⟨p,r,g,rfl,q,h1,h2,a,k⟩;exact⟨p,r,g,0,0,rfl,rfl,rfl,q,h1,h2,a.mono j.size,j.trans (k.mono o)⟩
 ·rintro e w' ⟨p,r,g,J,pl,w1,rfl,⟨rfl,rfl,q,h1,h2,a,j⟩,k⟩;exact⟨p,r,g,rfl,q,h1,h2,Ah a k,j.trans (k.mono j.size)⟩
theorem OU{ds:List Bd}(w:World)(base bb:Nat)(s:ByteArray)(ao:Option Addr)(cap:Nat)(hb:Aw w bb [.slice ao ds.length cap] 59)(g:AY w base (.slice ao ds.length cap) ds)(hW:∀d∈ds,d.WF)(hn:ds.length<=40)(k pl:Int)
 (u:Hid (∀(tb:Nat) (W:World),Below w.heap.size w W->Calls prog 78 #[.pointer (some ⟨bb,0,none⟩),.string s,.pointer (some ⟨tb,0,none⟩)] W fun e w'=>e=.returned (.agg #[.slice none 0 0,.int .i64 k,.int .i64 pl])/\Below W.heap.size W w')):
 Calls prog 49 #[.pointer (some ⟨bb,0,none⟩),.string s] w fun e w'=>e=.returned (.tuple #[.slice none 0 0,.int .i64 k,.int .i64 pl])/\Below w.heap.size w w':=by
 refine(cJ w bb s ao ds.length cap hb (fun _ W=>Below w.heap.size w W) (fun v z y W=>v=.slice none 0 0/\z=k/\y=pl/\Below w.heap.size w W) (Ao ?_) (Ao ?_)).mono ?_
 ·intro W j;refine(jE W base ao cap ds (g.below j) hW hn).mono ?_;rintro e w' ⟨own,V,ru,rfl,hT,q⟩;exact⟨_,rfl,j.trans (q.mono j.size)⟩
 ·intro tb W j;refine(u.out tb W j).mono ?_;rintro e w' ⟨rfl,q⟩;exact⟨none,0,0,k,pl,rfl,rfl,rfl,rfl,j.trans (q.mono j.size)⟩
 ·rintro e w' ⟨vo,vn,vc,z,y,w1,rfl,⟨b,rfl,rfl,j⟩,q⟩;rw[b];exact⟨rfl,j.trans (q.mono j.size)⟩
theorem YI{ds:List Bd}(w:World)(base bb:Nat)(s:ByteArray)(ao:Option Addr)(cap:Nat)(hb:Aw w bb [.slice ao ds.length cap] 59)(p:AY w base (.slice ao ds.length cap) ds)(hW:∀d∈ds,d.WF)(hn:ds.length<=40)(n0 t0 t1 t2:ByteArray)(c y k v u g q pl:Int)(j:(q==0)=false)
 (b:Hid (∀W:World,Below w.heap.size w W->Calls prog 68 #[.pointer (some ⟨bb,0,none⟩),.string s] W fun e w'=>e=.returned (.tuple #[.agg #[.string n0,.int .i64 c,.string t0,.string t1,.string t2],.agg #[.int .i64 y,.int .i64 k,.int .i64 v,.int .i64 u,.int .i64 g],.int .i64 q,.int .i64 pl])/\Below W.heap.size W w')):
 Calls prog 49 #[.pointer (some ⟨bb,0,none⟩),.string s] w fun e w'=>e=.returned (.tuple #[.slice none 0 0,.int .i64 q,.int .i64 pl])/\Below w.heap.size w w':=
 OU w base bb s ao cap hb p hW hn q pl (Ao fun tb W z=>RW W bb tb s n0 t0 t1 t2 c y k v u g q pl j (Ao fun t r=>b.out t (z.trans (r.mono z.size))))
theorem YH{ds:List Bd}(w:World)(base bb:Nat)(s:ByteArray)(ao:Option Addr)(cap:Nat)(hb:Aw w bb [.slice ao ds.length cap] 59)(k:AY w base (.slice ao ds.length cap) ds)(hW:∀d∈ds,d.WF)(hn:ds.length<=40)(y:2000<DH (max 1 (CE ds).length) ds)(n0 t0 t1 t2:ByteArray)(c v u g b t:Int)
 (r:Hid (∀W:World,Below w.heap.size w W->Calls prog 68 #[.pointer (some ⟨bb,0,none⟩),.string s] W fun e w'=>e=.returned (.tuple #[.agg #[.string n0,.int .i64 c,.string t0,.string t1,.string t2],.agg #[.int .i64 v,.int .i64 u,.int .i64 g,.int .i64 b,.int .i64 t],.int .i64 0,.int .i64 0])/\Below W.heap.size W w')):
 Calls prog 49 #[.pointer (some ⟨bb,0,none⟩),.string s] w fun e w'=>e=.returned (.tuple #[.slice none 0 0,.int .i64 1,.int .i64 0])/\Below w.heap.size w w':=by
 refine OU w base bb s ao cap hb k hW hn 1 0 (Ao fun tb W q=>RV W bb tb s n0 t0 t1 t2 c v u g b t ao ds.length cap (hb.below q) (Ao fun j z=>r.out j (q.trans (z.mono q.size))) (Ao fun j z=>?_));have:=Qm j base ao cap ds 2000 (by omega) (by omega) ((k.below q).below z) hW hn;rw[Bq y]at this;exact this
def nI(cs:List RC)(n:Nat)(k:B8):Nat:=match (A2 cs).find? (fun x=>decide (x.name=k)) with
 |some x=>x.ts.length
 |none=>n
theorem cR{cs:List RC}(h:JP cs)(n:Nat){a:RA}(q:a∈A2 cs):a.ts.length=nI cs n a.name:=by
 have:=h.at q;unfold Cz at this;unfold nI
 split at this
 ·omega
 ·rename_i x hx;rw[hx];simp only[];omega
theorem V8{cs:List RC}(hF:E2 cs)(a:RA)(q:a.ts.length<=3)(j:∀b∈A2 cs,b.name=a.name->b.ts.length=a.ts.length):Uz (cs.map RC.d) (nI cs a.ts.length) a.name (a.ts.map RT.s):=by
 refine⟨?_,?_,?_,?_,by simpa using q,?_,by simpa using hF.bp⟩
 ·intro d hd;have:=Wp hF hd;exact⟨this.1.2.1,fun l z=>(this.2 l z).2.1⟩
 ·intro d hd;exact(hF.wf d hd).lits
 ·intro d hd;obtain⟨c,hc,rfl⟩:=List.mem_map.1 hd;refine⟨?_,?_⟩
  ·have:=cR hF.even a.ts.length (Fg.2 ⟨c,hc,.inl rfl⟩);simpa[RC.d]using this
  ·intro l z;obtain⟨b,hb,rfl⟩:=List.mem_map.1 z;have:=cR hF.even a.ts.length (Fg.2 ⟨c,hc,.inr hb⟩);simpa[RA.lit]using this
 ·intro d hd;exact Jj hF d hd
 ·rw[AK];unfold nI
  split
  ·rename_i x hx;exact(j x (lX hx) (BV (by simpa using List.find?_some hx))).symm
  ·rfl
def Sa(cs:List RC)(s:ByteArray)(j pl:Int)(L:List B8):Prop:=
 if(Cn cs s).1=0 then(if 2000<Hb cs then j=1/\pl=0/\L=[] else j=0/\pl=0/\∃a,B0 s=some a/\∃q:List BA,q.Nodup/\(∀b,b∈q↔Ki cs b/\∃s,b=(a.name,Ct s (a.ts.map RT.s)))/\L=(q.map CL).mergeSort fun x y=>decide (x<=y))
 else j=((Cn cs s).1:Nat)/\pl=((Cn cs s).2:Nat)/\L=[]
theorem kE(w:World)(base bb:Nat)(v:Value)(cs:List RC)(f:Aw w bb [v] 59)(m:AY w base v (cs.map RC.d))(hF:E2 cs)(s:ByteArray)(hs:s.size<=maxLen):
 Calls prog 49 #[.pointer (some ⟨bb,0,none⟩),.string s] w fun e w'=>∃Q l o J pl L,e=.returned (.tuple #[.slice Q l o,.int .i64 J,.int .i64 pl])/\Sa cs s J pl L/\w'.ownsRow w.heap.size 9 1 (.slice Q l o) L.length (L.map fun z=>.string (bs z))/\Below w.heap.size w w':=by
 have hn:(cs.map RC.d).length<=40:=by simpa using hF.bp
 obtain⟨ao,cap,rfl⟩:=m.form;have c:∀W:World,Below w.heap.size w W->Calls prog 68 #[.pointer (some ⟨bb,0,none⟩),.string s] W fun e w'=>GB W cs s e w':=fun W j=>Ra W base bb cs ⟨_,f.below j,m.below j⟩ hF.wf hF.bp s hs;by_cases k:(Cn cs s).1=0
 ·have hq:∃a,B0 s=some a:=by
   unfold Cn at k
   split at k
   ·simp at k
   ·split at k
    ·simp at k
    ·rename_i a Y;exact⟨a,Y⟩
  obtain⟨a,u⟩:=hq;have r:=EA u;obtain⟨q1,q2,q0⟩:=GO u;have n:Hid (∀W:World,Below w.heap.size w W->Calls prog 68 #[.pointer (some ⟨bb,0,none⟩),.string s] W fun e w'=>e=.returned (.tuple #[.agg (qA a).toArray,.agg (qS a).toArray,.int .i64 0,.int .i64 0])/\Below W.heap.size W w'):=by intro W j;refine(c W j).mono ?_;rintro e w' ⟨h1,h2⟩;rw[Ai k]at h1;obtain⟨a',h3,Z⟩:=h1;rw[u]at h3;obtain rfl:=Be h3;exact⟨Z,h2⟩
  by_cases g:2000<Hb cs
  ·refine(YH w base bb s ao cap f m hF.wf hn g _ _ _ _ _ _ _ _ _ _ n).mono ?_;rintro e w' ⟨rfl,j⟩;refine⟨none,0,0,1,0,[],rfl,?_,Ak _ _ _ _,j⟩;unfold Sa;rw[Ai k,Ai g];exact⟨rfl,rfl,rfl⟩
  ·refine(cN (fun w base tb ao cap rules q h1 h2 h3=>mR w base tb ao cap rules q h1 h2 h3) w base bb s ao cap f m hF.wf a.name (a.ts.map RT.s) r.name ?_ _ _ _ _ _ (F4 hF) (LC hF) (V8 hF a r.bp (QC u (by simp[k]) hF.even)) (by unfold Hb at g;omega) ?_ ?_ n).mono ?_
   ·intro i;unfold AO
    cases hi:(a.ts.map RT.s)[i]? with
    |none=>simp[hi]
    |some t=>have:=AP hi;obtain⟨y,V,rfl⟩:=List.mem_map.1 this;simpa[hi]using r.words y V
   ·intro b hb _;exact(Jt hF hb).2.2.2
   ·intro p h1 h2;have:=LH hF h1 (fun b hb=>((h2 b).1 hb).1);omega
   ·rintro e w' ⟨Q,l,o,rfl,p,h1,h2,K,j⟩;refine⟨Q,l,o,0,0,(p.map CL).mergeSort fun x y=>decide (x<=y),rfl,?_,?_,j⟩
    ·unfold Sa;rw[Ai k,Af g];exact⟨rfl,rfl,a,u,p,h1,h2,rfl⟩
    ·rw[PL,AK];exact K
 ·have n:Hid (∀W:World,Below w.heap.size w W->Calls prog 68 #[.pointer (some ⟨bb,0,none⟩),.string s] W fun e w'=>e=.returned (.tuple #[.agg zA.toArray,.agg zS.toArray,.int .i64 ((Cn cs s).1:Nat),.int .i64 ((Cn cs s).2:Nat)])/\Below W.heap.size W w'):=by intro W j;refine(c W j).mono ?_;rintro e w' ⟨h1,h2⟩;rw[Af k]at h1;exact⟨h1,h2⟩
  refine(YI w base bb s ao cap f m hF.wf hn _ _ _ _ _ _ _ _ _ _ _ _ (by rw[Az];omega) n).mono ?_;rintro e w' ⟨rfl,j⟩;refine⟨none,0,0,_,_,[],rfl,?_,Ak _ _ _ _,j⟩;unfold Sa;rw[Af k];exact⟨rfl,rfl,rfl⟩
end
section
attribute [local go_sem] AE As
open Go.RowKit Go.WideMaps Go.Maps
def YW(cs:List RC)(s:ByteArray)(q pl:Int)(L:List B8):Prop:=
 if(Cn cs s).1=0 then(if 2000<Hb cs then q=1/\pl=0/\L=[] else q=0/\pl=0/\∃a,B0 s=some a/\∃H:List BA,H.Nodup/\lR cs H/\L=EJ ((H.filter fun b=>(Gy [] a b).isSome).map CL))
 else q=((Cn cs s).1:Nat)/\pl=((Cn cs s).2:Nat)/\L=[]
theorem cI{cs:List RC}{s:ByteArray}{v pl j y:Int}{L L':List B8}(h:Sa cs s v pl L)(q:YW cs s j y L'):v=j/\pl=y/\L=L':=by
 unfold Sa at h;unfold YW at q
 split at h
 ·rename_i k;rw[Ai k]at q
  split at h
  ·rename_i h1;rw[Ai h1]at q;exact⟨h.1.trans q.1.symm,h.2.1.trans q.2.1.symm,h.2.2.trans q.2.2.symm⟩
  ·rename_i h1;rw[Af h1]at q;obtain⟨rfl,rfl,a,hq,q0,t,d,rfl⟩:=h;obtain⟨rfl,rfl,a',z,H,g,u,rfl⟩:=q;rw[hq]at z;obtain rfl:=Be z;refine⟨rfl,rfl,UF CL CL _ t g ?_ (fun _ _=>rfl)⟩;intro b;rw[d,u b,Rw (GO hq).2.2]
 ·rename_i k;rw[Af k]at q;exact⟨h.1.trans q.1.symm,h.2.1.trans q.2.1.symm,h.2.2.trans q.2.2.symm⟩
theorem Zw(w:World)(g:Dl w)(p:0<w.heap.size)(base rb:Nat)(v:Value)(cs:List RC)(t:Aw w rb [v] 76)(d:Ck w base v cs)(hn:cs.length<=40)(hb:∀c∈cs,c.body.length<=4)(s:ByteArray)(hs:s.size<=maxLen)(k:(Cn cs s).1≠0):
 Calls prog 50 #[.pointer (some ⟨rb,0,none⟩),.string s] w fun e w'=>e=.returned (.tuple #[.slice none 0 0,.int .i64 ((Cn cs s).1:Nat),.int .i64 ((Cn cs s).2:Nat)])/\Below w.heap.size w w':=by
 have b:Cy w base rb cs:=⟨v,t,d⟩;obtain⟨x,q⟩:∃x,Hid ((Cn cs s).1=x):=⟨_,Ao rfl⟩;obtain⟨y,j⟩:∃y,Hid ((Cn cs s).2=y):=⟨_,Ao rfl⟩;rw[q.out]at k⊢;rw[j.out];have q1:(((x:Nat):Int) != 0)=true:=by rw[GG];omega
 have q2:(((x:Nat):Int)==0)=false:=by rw[Az];omega
 go_enter func50,ntmps50;go_wp2_with (go_at_call 40;refine(FR _ g p base rb cs b hn hb s hs).mono ?_;rintro e w1 ⟨c5,u,hF,z,r⟩;clear r;obtain⟨nm,tq,tl,q0,pl,bg,ng,rfl⟩:=hF;rw[q.out,j.out]at u;subst u);refine Aq (v:=.tuple #[.slice none 0 0,.int .i64 (x:Nat),.int .i64 (y:Nat)]) (by simp[results,results50,go_sem]) rfl ⟨rfl,z.alloc z.size _⟩
theorem Zv(w:World)(r:Dl w)(n:0<w.heap.size)(base rb:Nat)(v:Value)(cs:List RC)(d:Aw w rb [v] 76)(b:Ck w base v cs)(hF:E2 cs)(s:ByteArray)(hs:s.size<=maxLen)(hok:(Cn cs s).1=0)(y:2000<Hb cs):
 Calls prog 50 #[.pointer (some ⟨rb,0,none⟩),.string s] w fun e w'=>e=.returned (.tuple #[.slice none 0 0,.int .i64 1,.int .i64 0])/\Below w.heap.size w w':=by
 have p:Cy w base rb cs:=⟨v,d,b⟩;have hb:∀c∈cs,c.body.length<=4:=fun c hc=>(hF.bq c hc).small.bp;have hn:=hF.bp;have k:=Ao hok;have j:=Ao (fun W (hW:Below w.heap.size w W)=>Y7 W base rb v cs (d.below hW) (b.below hW) hF);rw[Bq y]at j;clear hok y;go_enter func50,ntmps50;go_wp2_with (first|(go_at_call 40;refine(FR _ r n base rb cs p hn hb s hs).mono ?_;rintro e w1 ⟨c5,t,g,q,m⟩;clear m;obtain⟨nm,tq,tl,q1,pl,bg,ng,rfl⟩:=g;rw[k.out]at t;subst t)|(go_at_call 80;refine(j.out _ (q.alloc q.size _)).mono ?_;rintro e w2 ⟨x,rfl,q2,z,u⟩;have q3:=BV z;have q0:(2000:Int)<((x:Nat):Int):=(by omega);clear z));refine Aq (v:=.tuple #[.slice none 0 0,.int .i64 1,.int .i64 0]) (by simp[results,results50,go_sem]) rfl ?_;exact⟨rfl,(q.alloc q.size _).trans (u.mono (by have:=q.size;simp;omega))⟩
theorem Rt(x:B8):∀(l:List B8) (k:Nat),k<=l.length->(∀y∈l.take k,y<x)->(∀y,l[k]? =some y->¬y<x)->GR x l=l.take k++[x]++l.drop k:=by
 intro l
 induction l with
 |nil=>intro k j _ _;simp[GR]
 |cons a r v=>
  intro k j h1 h2
  cases k with
  |zero=>have:=h2 a (by simp);rw[GR,Af this];rfl
  |succ k=>have z:a<x:=h1 a (by simp);rw[GR,Ai z,v k (by simpa using j) (fun y q=>h1 y (by simp[q])) (fun y q=>h2 y (by simpa using q))];rfl
theorem SF(b:BA):(gA b).shown=CL b:=by rw[F1 (gA b) rfl];unfold CL;congr 1;show(b.2.map gT).map RT.s=b.2;rw[C6];exact List.map_id _
theorem TG{b:BA}(h:b.1.length<=12/\b.2.length<=3/\∀t∈b.2,t.length<=12):(gA b).Small:=by refine⟨h.1,by rw[G7];exact h.2.1,?_⟩;intro t ht;obtain⟨s,hs,rfl⟩:=List.mem_map.1 ht;exact h.2.2 s hs
theorem eD(w:World)(base:Nat)(b:BA)(j:Option Addr)(q:Nat)(z:w.ownsRow base 130 3 (.slice j b.2.length q) b.2.length ((gA b).ts.flatMap RT.cells))(hs:b.1.length<=12/\b.2.length<=3/\∀t∈b.2,t.length<=12):
 Calls prog 43 #[.agg #[.string (bs b.1),.slice j b.2.length q,.int .i64 0,.int .i64 0,.bool false]] w fun e w'=>e=.returned (.string (bs (CL b)))/\Below w.heap.size w w':=by
 have h:=Es w base (gA b) j q (by rw[G7];exact z) (TG hs);rw[G7,SF]at h;exact h
theorem UP{b:BA}(hs:b.1.length<=12/\b.2.length<=3/\∀t∈b.2,t.length<=12):(CL b).length<=60:=by rw[<-SF];exact RA.au _ (TG hs)
theorem Zi(y x:B8):Op.bytesLess (bs y).toList (bs x).toList=decide (y<x):=by
 have e:∀l:B8,(bs l).toList=l:=by intro l;rw[Fm];rfl
 rw[e,e];exact bytesLess_eq y x
theorem Tz(l:List B8)(x:B8):EJ (l++[x])=GR x (EJ l):=by unfold EJ;rw[Dd];rfl
theorem Vq(l:List B8):(EJ l).length=l.length:=(Qo l).1.length_eq
theorem eL(w:World)(hE:Dl w)(hw:0<w.heap.size)(base rb:Nat)(v:Value)(cs:List RC)(hV:Aw w rb [v] 76)(hL:Ck w base v cs)(hF:E2 cs)(s:ByteArray)(hs:s.size<=maxLen)(hok:Cn cs s=(0,0))(g4:¬2000<Hb cs)(a:RA)(v0:B0 s=some a):
 Calls prog 50 #[.pointer (some ⟨rb,0,none⟩),.string s] w fun e w'=>∃vo vn vc,e=.returned (.tuple #[.slice vo vn vc,.int .i64 0,.int .i64 0])/\∃H:List BA,H.Nodup/\lR cs H/\w'.ownsRow w.heap.size 9 1 (.slice vo vn vc) (EJ ((H.filter fun b=>(Gy [] a b).isSome).map CL)).length ((EJ ((H.filter fun b=>(Gy [] a b).isSome).map CL)).map CN)/\Below w.heap.size w w':=by
 obtain⟨i1,Z,V,U,G⟩:=Bc Hk;have hI:Cy w base rb cs:=⟨v,hV,hL⟩;have hb:∀c∈cs,c.body.length<=4:=fun c hc=>(hF.bq c hc).small.bp;have hn:=hF.bp;have d8:=(EA v0).bp;have v4:=Ao hok;have g8:=Ao v0;have y9:=Ao (fun W (hW:Below w.heap.size w W)=>Y7 W base rb v cs (hV.below hW) (hL.below hW) hF);rw[A5 g4]at y9;have v3:=Ao (fun W (hW:Below w.heap.size w W)=>gI W base rb v cs (hV.below hW) (hL.below hW) hF (by omega));have t4:Hb cs<=2000:=by omega
 clear hok g4 v0;go_enter func50,ntmps50;go_wp2_with (first|(go_at_call 40;refine(FR _ hE hw base rb cs hI hn hb s hs).mono ?_;rintro e w1 ⟨c5,he,b2,q3,hm⟩;obtain⟨a',y6,g9⟩:=hm (by rw[v4.out]);rw[g8.out]at y6;obtain rfl:=Be y6;obtain⟨tv,rfl,k7⟩:=g9;obtain⟨tq,E,rfl⟩:=Au k7;rw[v4.out]at he;subst he;clear b2)|(go_at_call 80;refine(y9.out _ (q3.alloc q3.size _)).mono ?_;rintro e w2 ⟨sw,rfl,t2,g2,z7⟩;have t3:=Wl g2;have d5:¬(2000:Int)<((sw:Nat):Int):=(by omega);clear g2;have N:=(q3.alloc q3.size _).trans (z7.mono (by have:=q3.size;simp;omega)))|(go_at_call 81;refine(v3.out _ N).mono ?_;rintro e w3 ⟨hv,rfl,H,k4,u7,j3,z8⟩));have u0:=(Aw.new w1 [.string (bs a.name),.slice tq a.ts.length E,.int .i64 (a.pl:Nat),.int .i64 (a.af:Nat),.bool a.neg] 69);have b0:=(u0.below z7).below z8;have b5:=Ah (Ah (Ah k7 (Ac w1 (.cells #[.string (bs a.name),.slice tq a.ts.length E,.int .i64 (a.pl:Nat),.int .i64 (a.af:Nat),.bool a.neg] 69))) z7) z8;have y3:=N.trans (z8.mono N.size);have d6:H.length<=2040:=by have h1:=LH hF u7 (fun b hb=>(j3 b).1 hb);omega
 obtain⟨ho,hc,u6⟩:=k4.form;rw[AK]at u6;subst u6;have g1:=y3.size;have b3:=k4.mono (own':=w.heap.size) (base':=w.heap.size) N.size N.size;clear u0 z7 z8 k7 y9 v3 hm q3 k4;obtain⟨B,v7⟩:∃B:BA->Bool,Hid ((fun b=>(Gy [] a b).isSome)=B):=⟨_,Ao rfl⟩;go_wp2_with fail
 go_loopw [11,12] (fun ov iv wq=>∃(i:Nat),i<=H.length/\iv=.int .i64 i/\wq.ownsRow w3.heap.size 9 1 ov (EJ (((H.take i).filter B).map CL)).length ((EJ (((H.take i).filter B).map CL)).map CN)/\Hid (EJ (((H.take i).filter B).map CL)=[]->ov=.slice none 0 0)/\Below w3.heap.size w3 wq) (fun _ iv _=>H.length-(intOf iv).toNat)
 case atStart=>exact⟨0,by omega,rfl,Ak _ _ _ _,Ao fun _=>rfl,Ag _ _⟩
 case round=>
  obtain⟨i,hi,rfl,hO,v5,hB⟩:=hrel;have b1:=y3.trans (hB.mono g1);by_cases X:i<H.length
  ·obtain⟨n,z4,z3,b6,J,h0,h1,h2,h3,h4,y2⟩:=Nx (b3.below hB) rfl i X;subst b6;have j2:=Ao (Jt hF ((j3 H[i]).1 (Aj X)))
   have q9:=Ao (show(H.take (i+1)).filter B=(H.take i).filter B++(if B H[i]=true then [H[i]] else []) by
    rw[Ad X,Ip];congr 1
    cases h:B H[i]<;>simp[h])
   obtain⟨b,u3⟩:∃b,H[i]=b:=⟨_,rfl⟩;simp only[u3]at h0 h1 y2 j2 q9;clear u3;have k0:=b0.below hB;have u2:=Ah b5 hB;have d9:=k0.lt;have t6:w1.heap.size≠wr.heap.size:=by omega
   have t7:n≠wr.heap.size:=by omega
   have k5:=Aw.new wr [.slice none 0 0,.slice none 0 0] 156;have L:=Ac wr (.cells #[.slice none 0 0,.slice none 0 0] 156);have q2:=Ao (fun(W:World) (hW:Below (wr.alloc (.cells #[.slice none 0 0,.slice none 0 0] 156)).heap.size (wr.alloc (.cells #[.slice none 0 0,.slice none 0 0] 156)) W)=>aU W 0 w.heap.size w.heap.size none none 0 0 [] ⟨Ak _ _ _ _,Ak _ _ _ _⟩ (fun _=>⟨rfl,rfl,rfl,rfl⟩) (by simp) a tq E (Ah (Ah u2 L) hW) (by omega) b z4 z3 (Ah (Ah y2 L) hW));have y7:Hid ((Gy [] a b).isSome=B b):=by show _=_;rw[<-v7.out]
   obtain⟨fo,v2⟩:∃fo,Hid (Gy [] a b=fo):=⟨_,Ao rfl⟩;rw[v2.out]at q2 y7;have A:Hid (∀w',Below (wr.alloc (.cells #[.slice none 0 0,.slice none 0 0] 156)).heap.size (wr.alloc (.cells #[.slice none 0 0,.slice none 0 0] 156)) w'->w'.cell? ⟨w1.heap.size,0,none⟩=some (.string (bs a.name))/\w'.cell? ⟨w1.heap.size,1,none⟩=some (.slice tq a.ts.length E)/\w'.cell? ⟨w1.heap.size,2,none⟩=some (.int .i64 (a.pl:Nat))/\w'.cell? ⟨w1.heap.size,3,none⟩=some (.int .i64 (a.af:Nat))/\w'.cell? ⟨w1.heap.size,4,none⟩=some (.bool a.neg)/\w'.cell? ⟨n,i*5,none⟩=some (.string (bs b.1))/\w'.cell? ⟨n,i*5+1,none⟩=some (.slice z4 b.2.length z3)/\w'.cell? ⟨n,i*5+2,none⟩=some (.int .i64 0)/\w'.cell? ⟨n,i*5+3,none⟩=some (.int .i64 0)/\w'.cell? ⟨n,i*5+4,none⟩=some (.bool false)/\w'.cell? ⟨wr.heap.size,0,none⟩=some (.slice none 0 0)/\w'.cell? ⟨wr.heap.size,1,none⟩=some (.slice none 0 0)):=by intro W hW;have q5:=L.trans (hW.mono L.size);obtain⟨a0,a1,a2,a3,a4⟩:=(k0.below q5).c5;exact⟨a0,a1,a2,a3,a4,by rw[q5.cell (p:=⟨n,i*5,none⟩) J];exact h0,by rw[q5.cell (p:=⟨n,i*5+1,none⟩) J];exact h1,by rw[q5.cell (p:=⟨n,i*5+2,none⟩) J];exact h2,by rw[q5.cell (p:=⟨n,i*5+3,none⟩) J];exact h3,by rw[q5.cell (p:=⟨n,i*5+4,none⟩) J];exact h4,(k5.below hW).cell 0,(k5.below hW).cell 1⟩
   have g5:=Ao (q2.out);go_wp2_with fail
   go_cut [14,15] from 41 to 50 (fun nv d1 wx=>(∃q,nv=.pointer q)/\d1=.bool (B b)/\Below wr.heap.size wr wx)
   case first=>
    go_region_held3 (fun w'=>w'.cell? ⟨w1.heap.size,0,none⟩=some (.string (bs a.name))/\w'.cell? ⟨w1.heap.size,1,none⟩=some (.slice tq a.ts.length E)/\w'.cell? ⟨w1.heap.size,2,none⟩=some (.int .i64 (a.pl:Nat))/\w'.cell? ⟨w1.heap.size,3,none⟩=some (.int .i64 (a.af:Nat))/\w'.cell? ⟨w1.heap.size,4,none⟩=some (.bool a.neg)/\w'.cell? ⟨n,i*5,none⟩=some (.string (bs b.1))/\w'.cell? ⟨n,i*5+1,none⟩=some (.slice z4 b.2.length z3)/\w'.cell? ⟨n,i*5+2,none⟩=some (.int .i64 0)/\w'.cell? ⟨n,i*5+3,none⟩=some (.int .i64 0)/\w'.cell? ⟨n,i*5+4,none⟩=some (.bool false)/\w'.cell? ⟨wr.heap.size,0,none⟩=some (.slice none 0 0)/\w'.cell? ⟨wr.heap.size,1,none⟩=some (.slice none 0 0)) (first
     |exact A.out _ (Ag _ _)
     |exact A.out _ (Ag _ _).drew
     |exact A.out _ ((Ag _ _).alloc (Ab _) _).drew
     |exact A.out _ j4
     |exact A.out _ (j4.alloc j4.size _)
     |exact A.out _ ((j4.setCell (p:=⟨wr.heap.size+1,0,none⟩) (by simp) _).setCell (p:=⟨wr.heap.size+1,1,none⟩) (by simp) _)) (first
     |(go_at_call 82;refine(q2.out _ (by first|exact(Ag _ _).drew|exact((Ag _ _).alloc (Ab _) _).drew)).mono ?_;rintro e w4 ⟨k3,m1,l1,k1,m2,l2,k2,rfl,-⟩;rw[y7.out];have j4:Below (wr.alloc (.cells #[.slice none 0 0,.slice none 0 0] 156)).heap.size (wr.alloc (.cells #[.slice none 0 0,.slice none 0 0] 156)) w4:=(by first|exact(Ag _ _).drew.trans k3|exact(((Ag _ (wr.alloc (.cells #[.slice none 0 0,.slice none 0 0] 156))).alloc (Ab _) (.cells #[.slice none 0 0,.slice none 0 0] 156)).drew).trans (k3.mono (by simp)));(first|(have z9:Aw w4 (wr.heap.size+1) [.slice none 0 0,.slice none 0 0] 156:=(by have h:=(Aw.new (wr.alloc (.cells #[.slice none 0 0,.slice none 0 0] 156)) [.slice none 0 0,.slice none 0 0] 156).drew.below k3;simpa using h);have b8:=z9.cell 0;have b9:=z9.cell 1;have t8:=z9.frozen;have t9:=z9.lt;simp only[List.getElem?_cons_zero,List.getElem?_cons_succ]at b8 b9)|skip)))
    all_goals go_wp2_with fail
    all_goals go_meet
    all_goals refine⟨⟨_,rfl⟩,rfl,?_⟩
    all_goals
     have j5:=L.trans (j4.mono L.size)
     first
      |exact j5.alloc j5.size _
      |exact(j5.setCell (p:=⟨wr.heap.size+1,0,none⟩) (by simp) _).setCell (p:=⟨wr.heap.size+1,1,none⟩) (by simp) _
   case rest=>
    obtain⟨⟨nq,b7⟩,u9,R⟩:=hcut;subst b7;subst u9;have y1:=Ah hO R;have j6:=hB.trans (R.mono hB.size);have x0:wc.cell? ⟨n,i*5,none⟩=some (.string (bs b.1)):=by rw[R.cell (p:=⟨n,i*5,none⟩) J];exact h0
    have x1:wc.cell? ⟨n,i*5+1,none⟩=some (.slice z4 b.2.length z3):=by rw[R.cell (p:=⟨n,i*5+1,none⟩) J];exact h1
    have x2:wc.cell? ⟨n,i*5+2,none⟩=some (.int .i64 0):=by rw[R.cell (p:=⟨n,i*5+2,none⟩) J];exact h2
    have x3:wc.cell? ⟨n,i*5+3,none⟩=some (.int .i64 0):=by rw[R.cell (p:=⟨n,i*5+3,none⟩) J];exact h3
    have x4:wc.cell? ⟨n,i*5+4,none⟩=some (.bool false):=by rw[R.cell (p:=⟨n,i*5+4,none⟩) J];exact h4
    have d2:n<wc.heap.size:=AH J R.size;have v9:Hid (b.1.length<=12/\b.2.length<=3/\∀t∈b.2,t.length<=12):=⟨j2.out.1,j2.out.2.1,j2.out.2.2.2⟩;have y8:=Ao (eD wc w.heap.size b z4 z3 (Ah y2 R) v9.out);have t5:=UP v9.out;clear q2 A g5 k5 L k0 u2 y2 h0 h1 h2 h3 h4 y7 v2 j2 hO J;cases hp:B b
    ·have HE:Hid ((H.take (i+1)).filter B=(H.take i).filter B):=by show _=_;rw[q9.out,hp];simp
     clear hp y8 q9;go_wp2_with fail;exact⟨⟨i+1,X,by go_num,by rw[HE.out];exact y1,by rw[HE.out];exact v5,j6⟩,by simp[intOf];omega⟩
    ·have HE:Hid (EJ (((H.take (i+1)).filter B).map CL)=GR (CL b) (EJ (((H.take i).filter B).map CL))):=by show _=_;rw[q9.out,hp,Ai rfl,A8];exact Tz _ _
     have d7:(EJ (((H.take i).filter B).map CL)).length<=2040:=by rw[Vq,AK];have h1:=Jf B (H.take i);rw[Dz]at h1;omega
     clear hp q9;generalize EJ (((H.take i).filter B).map CL)=O at*;generalize CL b=x at*;obtain⟨oo,oc,rfl⟩:=Au y1;go_wp2_with (go_at_call 43;refine(y8.out).mono ?_;rintro e w5 ⟨rfl,u1⟩);have b4:=Ah y1 u1;have o:=j6.trans (u1.mono j6.size);clear y1 y8 x0 x1 x2 x3 x4
     go_loopw [17] (fun kv wq=>∃(k:Nat),k<=O.length/\kv=.int .i64 k/\Hid (∀y∈O.take k,y<x)/\Below w5.heap.size w5 wq) (fun kv _=>O.length-(intOf kv).toNat)
     case atStart=>exact⟨0,by omega,rfl,Ao (by simp),Ag _ _⟩
     case round=>
      obtain⟨k,hk,rfl,z5,q4⟩:=hrel;have q0:=Ah b4 q4;by_cases j9:k<O.length
      ·obtain⟨K,k9,u5⟩:=DO q0 k j9;subst k9;have d0:wr.cell? ⟨K,k,none⟩=some (.string (bs O[k])):=by rw[u5];simp[j9,CN]
       have d3:=(q0.lt K rfl).2;clear u5;have u4:=Zi O[k] x;by_cases z2:O[k]<x
       ·rw[Bq z2]at u4
        have HN:Hid (∀y∈O.take (k+1),y<x):=by
            intro y hy;rw[Ad j9,Bi,A7]at hy;rcases hy with hy|rfl
            ·exact z5.out y hy
            ·exact z2
        clear z2;generalize O[k]=y at*;go_wp2_with fail;exact⟨⟨k+1,j9,by go_num,HN,q4⟩,by simp[intOf];omega⟩
       ·rw[A5 z2]at u4;have C:=Ao (Rt x O k hk z5.out (fun y hy=>by rw[Ar j9]at hy;obtain rfl:=Be hy;exact z2));have g:wr.ownsRow w3.heap.size 9 1 (.slice (some ⟨K,0,none⟩) O.length oc) O.length (O.map CN):=q0;have u8:O.length<=oc:=(Gg g).1
        have y5:oc<=9223372036854775807:=by
            rcases g.2 with⟨e,_⟩|⟨_,_,_,e,_,_,_,hc,_⟩
            ·simp at e
            ·simp only[Bx]at e;unfold maxLen at hc;omega
        have j8:=Gt g;have y4:=(g.lt K rfl).2
        have z0:∀j u,((O.take k).map CN)[j]? =some u->wr.cell? ((⟨K,0,none⟩:Addr).add j)=some u:=by
            intro j u Y;refine j8 j u ?_;rw[nF,Io]at Y
            split at Y
            ·exact Y
            ·simp at Y
        have Q:∀(l:List B8),∀u∈l.map CN,u.oneCell'=true:=by intro l u P;obtain⟨q,_,rfl⟩:=List.mem_map.1 P;rfl
        have S:(O.take k).length=k:=by rw[Dz];omega
        have q1:(O.drop k).length=O.length-k:=by rw[G1]
        go_wp2_with (first|(at_builtin;have _t:=m;(refine DR _ rfl _ _ 31 rfl wr.heap.size 9 i1 _ 1 16 underlying31 Z V U G rfl (by decide) (.slice (some ⟨g7,0,none⟩) (k+1) c7) (k+1) _ rfl (by exact m) ⟨K,k,none⟩ (O.length-k) (oc-k) ((O.drop k).map CN) rfl (by simp) k8 (Q _) (by unfold maxLen;omega) (by omega) (by omega) ?_);intro v8 w8 q7 q6 _)|(at_builtin;have _t:=r;(refine AF _ rfl _ _ 31 rfl wr.heap.size 9 i1 _ 1 16 underlying31 Z V U G rfl (by decide) v6 k ((O.take k).map CN) rfl (by exact r.alloc _) ⟨w6.heap.size,0,none⟩ 1 [CN x] rfl rfl (by exact AS w6 [CN x] 9) (by intro u P;simp at P;subst P;rfl) (by unfold maxLen;omega) (by omega) (by simp;omega) ?_);intro g7 c7 w7 m f;have y0:=(j7.alloc (.cells #[.string (bs x)] 9)).kept f (.inr (fun e=>by have:=(r.lt K e.symm).1;omega));have k8:∀j u,((O.drop k).map CN)[j]? =some u->w7.cell? ((⟨K,k,none⟩:Addr).add j)=some u:=(by intro j u Y;have h:=Gt y0 (k+j) u (by rw[List.map_drop,Ll]at Y;exact Y);rw[Jg]at h⊢;simpa using h);have g3:w6.heap.size<=w7.heap.size:=(by have h:=f.size;rw[EL]at h;omega))|(at_builtin;refine DR _ rfl _ _ 31 rfl wr.heap.size 9 i1 _ 1 16 underlying31 Z V U G rfl (by decide) (.slice none 0 0) 0 [] rfl (Ak _ _ _ _) ⟨K,0,none⟩ k oc ((O.take k).map CN) rfl (by simp;omega) z0 (Q _) (by unfold maxLen;omega) (by omega) (Ab _) ?_;intro v6 w6 r d _;simp only[B7,List.nil_append]at r;have j7:=g.kept d (.inr (by simp[Value.ownBlock]));have z1:=d.size));have I:Below wr.heap.size wr w8:=(((Ag wr.heap.size wr).grown d (Ab _) (by simp[Value.ownBlock])).alloc z1 _|>.grown f (by rw[EL];omega) (A9 (r.alloc (.cells #[.string (bs x)] 9)))).grown q6 (by omega) (A9 m);have z:=o.trans (q4.mono o.size);have j1:Hid ((GR x O).map CN=(O.take k).map CN++[CN x]++(O.drop k).map CN):=by show _=_;rw[C.out,A8,A8];rfl
        have M:Hid ((GR x O).length=k+1+(O.length-k)):=by show _=_;rw[C.out,Am,Am,S,q1];rfl
        have j0:Hid (GR x O=[]->v8=.slice none 0 0):=by intro e;have:=M.out;rw[e]at this;simp at this;omega
        refine⟨⟨i+1,X,by go_num,?_,?_,z.trans (I.mono z.size)⟩,by simp[intOf];omega⟩
        ·rw[HE.out,j1.out,M.out];exact BS q7 z.size
        ·rw[HE.out];exact j0
      ·by_cases k6:O=[]
       ·have g0:=v5.out k6;subst k6;simp only[List.length_nil,Bx]at g0;obtain⟨rfl,-,rfl⟩:=g0;obtain rfl:k=0:=by simpa using hk
        go_wp2_with (first|(at_builtin;have _t:=m;(refine wpList_append_own_none rfl _ _ 31 rfl wr.heap.size 9 i1 1 underlying31 Z (.slice (some ⟨g7,0,none⟩) 1 c7) 1 [CN x] rfl (by exact m) rfl ?_))|(at_builtin;refine Bv _ rfl _ _ 31 rfl wr.heap.size 9 i1 _ 1 16 underlying31 Z V U G rfl (by decide) (.slice none 0 0) 0 [] rfl (Ak _ _ _ _) ⟨wr.heap.size,0,none⟩ 1 1 [CN x] rfl (by decide) rfl (by exact AS wr [CN x] 9) (by intro u P;simp at P;subst P;rfl) (by unfold maxLen;omega) (by omega) (by simp) ?_;intro g7 c7 w7 m f t0));have I:Below wr.heap.size wr w7:=((Ac wr _).grown f (by simp) (by simp[Value.ownBlock]));have z:=o.trans (q4.mono o.size);refine⟨⟨i+1,X,by go_num,?_,?_,z.trans (I.mono z.size)⟩,by simp[intOf];omega⟩
        ·rw[HE.out];exact BS m z.size
        ·rw[HE.out];exact Ao (fun e=>by simp[GR]at e)
       ·obtain⟨K,k9⟩:=S7 q0 (List.length_pos_iff.2 k6);subst k9;have q8:=Ao (show O.drop k=[] from Ex (by omega));rcases Nat.lt_or_ge k oc with v1|v1
        ·have d4:¬k=oc:=by omega
         have C:=Ao (Rt x O k hk z5.out (fun y hy=>by rw[Di (by omega)]at hy;simp at hy));have g:wr.ownsRow w3.heap.size 9 1 (.slice (some ⟨K,0,none⟩) O.length oc) O.length (O.map CN):=q0;have u8:O.length<=oc:=(Gg g).1
         have y5:oc<=9223372036854775807:=by
            rcases g.2 with⟨e,_⟩|⟨_,_,_,e,_,_,_,hc,_⟩
            ·simp at e
            ·simp only[Bx]at e;unfold maxLen at hc;omega
         have j8:=Gt g;have y4:=(g.lt K rfl).2
         have z0:∀j u,((O.take k).map CN)[j]? =some u->wr.cell? ((⟨K,0,none⟩:Addr).add j)=some u:=by
            intro j u Y;refine j8 j u ?_;rw[nF,Io]at Y
            split at Y
            ·exact Y
            ·simp at Y
         have Q:∀(l:List B8),∀u∈l.map CN,u.oneCell'=true:=by intro l u P;obtain⟨q,_,rfl⟩:=List.mem_map.1 P;rfl
         have S:(O.take k).length=k:=by rw[Dz];omega
         have q1:(O.drop k).length=O.length-k:=by rw[G1]
         go_wp2_with (first|(at_builtin;have _t:=m;(refine DR _ rfl _ _ 31 rfl wr.heap.size 9 i1 _ 1 16 underlying31 Z V U G rfl (by decide) (.slice (some ⟨g7,0,none⟩) (k+1) c7) (k+1) _ rfl (by exact m) ⟨K,k,none⟩ (O.length-k) (oc-k) ((O.drop k).map CN) rfl (by simp) k8 (Q _) (by unfold maxLen;omega) (by omega) (by omega) ?_);intro v8 w8 q7 q6 _)|(at_builtin;have _t:=m;(refine DR _ rfl _ _ 31 rfl wr.heap.size 9 i1 _ 1 16 underlying31 Z V U G rfl (by decide) (.slice (some ⟨g7,0,none⟩) (k+1) c7) (k+1) _ rfl (by exact m) ⟨K,0,none⟩ (O.length-k) (oc-k) ((O.drop k).map CN) rfl (by simp) (fun j u Y=>by rw[q8.out]at Y;simp at Y) (Q _) (by unfold maxLen;omega) (by omega) (by omega) ?_);intro v8 w8 q7 q6 _)|(at_builtin;have _t:=r;(refine AF _ rfl _ _ 31 rfl wr.heap.size 9 i1 _ 1 16 underlying31 Z V U G rfl (by decide) v6 k ((O.take k).map CN) rfl (by exact r.alloc _) ⟨w6.heap.size,0,none⟩ 1 [CN x] rfl rfl (by exact AS w6 [CN x] 9) (by intro u P;simp at P;subst P;rfl) (by unfold maxLen;omega) (by omega) (by simp;omega) ?_);intro g7 c7 w7 m f;have y0:=(j7.alloc (.cells #[.string (bs x)] 9)).kept f (.inr (fun e=>by have:=(r.lt K e.symm).1;omega));have k8:∀j u,((O.drop k).map CN)[j]? =some u->w7.cell? ((⟨K,k,none⟩:Addr).add j)=some u:=(by intro j u Y;have h:=Gt y0 (k+j) u (by rw[List.map_drop,Ll]at Y;exact Y);rw[Jg]at h⊢;simpa using h);have g3:w6.heap.size<=w7.heap.size:=(by have h:=f.size;rw[EL]at h;omega))|(at_builtin;refine DR _ rfl _ _ 31 rfl wr.heap.size 9 i1 _ 1 16 underlying31 Z V U G rfl (by decide) (.slice none 0 0) 0 [] rfl (Ak _ _ _ _) ⟨K,0,none⟩ k oc ((O.take k).map CN) rfl (by simp;omega) z0 (Q _) (by unfold maxLen;omega) (by omega) (Ab _) ?_;intro v6 w6 r d _;simp only[B7,List.nil_append]at r;have j7:=g.kept d (.inr (by simp[Value.ownBlock]));have z1:=d.size));have I:Below wr.heap.size wr w8:=(((Ag wr.heap.size wr).grown d (Ab _) (by simp[Value.ownBlock])).alloc z1 _|>.grown f (by rw[EL];omega) (A9 (r.alloc (.cells #[.string (bs x)] 9)))).grown q6 (by omega) (A9 m);have z:=o.trans (q4.mono o.size);have j1:Hid ((GR x O).map CN=(O.take k).map CN++[CN x]++(O.drop k).map CN):=by show _=_;rw[C.out,A8,A8];rfl
         have M:Hid ((GR x O).length=k+1+(O.length-k)):=by show _=_;rw[C.out,Am,Am,S,q1];rfl
         have j0:Hid (GR x O=[]->v8=.slice none 0 0):=by intro e;have:=M.out;rw[e]at this;simp at this;omega
         refine⟨⟨i+1,X,by go_num,?_,?_,z.trans (I.mono z.size)⟩,by simp[intOf];omega⟩
         ·rw[HE.out,j1.out,M.out];exact BS q7 z.size
         ·rw[HE.out];exact j0
        ·have t1:=(Gg q0).1;obtain rfl:k=O.length:=by omega
         obtain rfl:oc=O.length:=by omega
         have C:=Ao (Rt x O O.length hk z5.out (fun y hy=>by rw[Di (by omega)]at hy;simp at hy));have g:wr.ownsRow w3.heap.size 9 1 (.slice (some ⟨K,0,none⟩) O.length O.length) O.length (O.map CN):=q0;have u8:O.length<=O.length:=(Gg g).1
         have y5:O.length<=9223372036854775807:=by
            rcases g.2 with⟨e,_⟩|⟨_,_,_,e,_,_,_,hc,_⟩
            ·simp at e
            ·simp only[Bx]at e;unfold maxLen at hc;omega
         have j8:=Gt g;have y4:=(g.lt K rfl).2
         have z0:∀j u,((O.take O.length).map CN)[j]? =some u->wr.cell? ((⟨K,0,none⟩:Addr).add j)=some u:=by
            intro j u Y;refine j8 j u ?_;rw[nF,Io]at Y
            split at Y
            ·exact Y
            ·simp at Y
         have Q:∀(l:List B8),∀u∈l.map CN,u.oneCell'=true:=by intro l u P;obtain⟨q,_,rfl⟩:=List.mem_map.1 P;rfl
         have S:(O.take O.length).length=O.length:=by rw[Dz];omega
         have q1:(O.drop O.length).length=O.length-O.length:=by rw[G1]
         go_wp2_with (first|(at_builtin;have _t:=m;(refine DR _ rfl _ _ 31 rfl wr.heap.size 9 i1 _ 1 16 underlying31 Z V U G rfl (by decide) (.slice (some ⟨g7,0,none⟩) (O.length+1) c7) (O.length+1) _ rfl (by exact m) ⟨K,0,none⟩ 0 0 [] rfl rfl (fun j u Y=>by simp at Y) (fun u P=>by simp at P) (by unfold maxLen;omega) (by omega) (by omega) ?_);intro v8 w8 q7 q6 _)|(at_builtin;have _t:=r;(refine AF _ rfl _ _ 31 rfl wr.heap.size 9 i1 _ 1 16 underlying31 Z V U G rfl (by decide) v6 O.length ((O.take O.length).map CN) rfl (by exact r.alloc _) ⟨w6.heap.size,0,none⟩ 1 [CN x] rfl rfl (by exact AS w6 [CN x] 9) (by intro u P;simp at P;subst P;rfl) (by unfold maxLen;omega) (by omega) (by simp;omega) ?_);intro g7 c7 w7 m f;have y0:=(j7.alloc (.cells #[.string (bs x)] 9)).kept f (.inr (fun e=>by have:=(r.lt K e.symm).1;omega));have g3:w6.heap.size<=w7.heap.size:=(by have h:=f.size;rw[EL]at h;omega))|(at_builtin;refine DR _ rfl _ _ 31 rfl wr.heap.size 9 i1 _ 1 16 underlying31 Z V U G rfl (by decide) (.slice none 0 0) 0 [] rfl (Ak _ _ _ _) ⟨K,0,none⟩ O.length O.length ((O.take O.length).map CN) rfl (by simp) z0 (Q _) (by unfold maxLen;omega) (by omega) (Ab _) ?_;intro v6 w6 r d _;simp only[B7,List.nil_append]at r;have j7:=g.kept d (.inr (by simp[Value.ownBlock]));have z1:=d.size));have I:Below wr.heap.size wr w8:=(((Ag wr.heap.size wr).grown d (Ab _) (by simp[Value.ownBlock])).alloc z1 _|>.grown f (by rw[EL];omega) (A9 (r.alloc (.cells #[.string (bs x)] 9)))).grown q6 (by omega) (A9 m);have z:=o.trans (q4.mono o.size);have j1:Hid ((GR x O).map CN=(O.take O.length).map CN++[CN x]++[]):=by show _=_;rw[C.out,q8.out,A8,A8];rfl
         have M:Hid ((GR x O).length=O.length+1+0):=by show _=_;rw[C.out,q8.out,Am,Am,S];rfl
         have j0:Hid (GR x O=[]->v8=.slice none 0 0):=by intro e;have:=M.out;rw[e]at this;simp at this
         refine⟨⟨i+1,X,by go_num,?_,?_,z.trans (I.mono z.size)⟩,by simp[intOf];omega⟩
         ·rw[HE.out,j1.out,M.out];exact BS q7 z.size
         ·rw[HE.out];exact j0
  ·obtain rfl:i=H.length:=by omega
   rw[AL]at hO;obtain⟨oo,oc,rfl⟩:=Au hO;have q2:=Ao (show(fun b=>(Gy [] a b).isSome)=B from v7.out);go_wp2_with fail;refine Aq (v:=.tuple #[.slice oo (EJ ((H.filter B).map CL)).length oc,.int .i64 0,.int .i64 0]) (by simp[results,results50,go_sem]) rfl ⟨oo,_,oc,rfl,H,u7,j3,?_,b1⟩;rw[q2.out];exact BS hO g1
end
end Go.Proofs.YtpbfiffgcgnidaaGreatDoor
