import Derived.Test.YtpbfiffgcgnidaaGreatDoorYal
import Derived.Deep.RegionHeld3
import Derived.Deep.CutBlock
import Derived.Conc.MuLib
import Derived.Conc.MuLone
import Derived.KernelRfl
import Derived.SevenTiedAt
import Derived.Test.YtpbfiffgcgnidaaGreatDoorY8
namespace Go.Proofs.YtpbfiffgcgnidaaGreatDoor
set_option maxRecDepth 100000
set_option maxHeartbeats 4000000
set_option linter.unusedSimpArgs false
open Go.Proofs.Tryz
section
structure IP.WF(r:IP):Prop where
 name:r.name.length<=12
 ts:r.ts.length<=3
 words:∀t∈r.ts,t.length<=12
 ps:r.ps.length<=3
theorem Kl(q:Int->Bool)(m:B8):(m.take (Bt q 12 m)).length<=12:=by have:=(QO q 12 m).2;simp;omega
theorem Zg(l:B8):(BL l).length<=12:=by
 unfold BL Hc
 split
 ·exact Kl _ _
 ·split
  ·exact Kl _ _
  ·simp
theorem cP(s:ByteArray)(name:B8)(np:Nat)(hn:name.length<=12):∀(f:Nat) (ts:List B8) (ps:List Nat) (l:B8),ts.length+f<=3->ps.length+f<=3->(∀t∈ts,t.length<=12)->(CM s name np f ts ps l).WF:=by
 intro f
 induction f with
 |zero=>intro ts ps l h1 h2 h3;exact⟨hn,h1,h3,h2⟩
 |succ f y=>
  intro ts ps l h1 h2 h3
  have q:∀t∈ts++[BL l],t.length<=12:=by
   intro t ht;simp at ht;rcases ht with ht|rfl
   ·exact h3 t ht
   ·exact Zg l
  have j:(ts++[BL l]).length+f<=3:=by simp;omega
  have z:(ps++[Bn s (AD l)]).length+f<=3:=by simp;omega
  unfold CM
  split
  ·exact⟨by simp,by simp,by simp,by simp⟩
  ·split
   ·exact⟨hn,by simp only[];omega,q,by simp only[];omega⟩
   ·split
    ·exact⟨hn,by simp only[];omega,q,by simp only[];omega⟩
    ·exact y _ _ _ j z q
theorem LR(s:ByteArray)(l:B8):(Bf s l).WF:=by
 unfold Bf;dsimp only
 split
 ·exact⟨by simp,by simp,by simp,by simp⟩
 ·split
  ·exact⟨Kl _ _,by simp,by simp,by simp⟩
  ·exact cP s _ _ (Kl _ _) 3 [] [] _ (by simp) (by simp) (by simp)
def BQ.ok(d:BQ):Prop:=d.name.length<=12/\d.ts.length<=3/\∀t∈d.ts,t.length<=12
def Dg.ok(d:Dg):Prop:=d.ps.length<=3
theorem WC(s:ByteArray)(l:B8):(JS s l).ok/\(Hd s l).ok:=
 let h:=LR s (AT l 33)
 ⟨⟨h.name,h.ts,h.words⟩,h.ps⟩
structure nJ.WF(r:nJ)(n m:Nat):Prop where
 lits:r.lits.length<=4
 ah:r.ah.length+n=r.lits.length+m
 lok:∀l∈r.lits,l.ok
 sok:∀p∈r.ah,p.ok
theorem ZU(s:ByteArray):∀(f:Nat) (ls:List BQ) (ps:List Dg) (l:B8),ls.length+f<=4->(∀d∈ls,d.ok)->(∀p∈ps,p.ok)->(ER s f ls ps l).WF ls.length ps.length:=by
 intro f
 induction f with
 |zero=>intro ls ps l h1 h2 h3;exact⟨h1,by simp[ER];omega,h2,h3⟩
 |succ f y=>
  intro ls ps l h1 h2 h3
  have j:∀d∈ls++[JS s l],d.ok:=by
   intro d hd;simp at hd;rcases hd with hd|rfl
   ·exact h2 d hd
   ·exact(WC s l).1
  have z:∀p∈ps++[Hd s l],p.ok:=by
   intro p q;simp at q;rcases q with q|rfl
   ·exact h3 p q
   ·exact(WC s l).2
  unfold ER
  split
  ·exact⟨by simp only[];omega,by simp only[];omega,h2,h3⟩
  ·split
   ·exact⟨by simp;omega,by simp;omega,j,z⟩
   ·split
    ·exact⟨by simp;omega,by simp;omega,j,z⟩
    ·have:=y (ls++[JS s l]) (ps++[Hd s l]) (AT (Cd s l).rest 44) (by simp;omega) j z;exact⟨this.lits,by have h:=this.ah;simp at h;omega,this.lok,this.sok⟩
theorem cB(s:ByteArray)(p:Dg)(l:B8)(q:p.ok):(Dc s [p] l).WF 0 1:=by
 unfold Dc
 split
 ·exact⟨by simp,by simp,by simp,by simpa using q⟩
 ·exact ZU s 4 [] [p] l.tail (by simp) (by simp) (by simpa using q)
theorem VN(s:ByteArray)(l:B8)(hok:(BH s l).ok=true):(BH s l).d.WF:=by
 have q:=LR s l;have z:(Ce s l).ok:=q.ps
 have mk:∀(lits:List BQ) (spots:List Dg),lits.length<=4->spots.length=lits.length+1->(∀d∈lits,d.ok)->(∀p∈spots,p.ok)->Bd.WF ⟨(Bf s l).name,(Bf s l).ts,lits,spots⟩:=by
  intro lits spots h1 h2 h3 k;refine⟨h2,h1,?_,k⟩;intro a y;simp only[Bd.atoms,Br,C4]at y;rcases y with rfl|⟨d,hd,rfl⟩
  ·exact⟨q.name,q.ts,q.words⟩
  ·exact h3 d hd
 unfold BH at hok⊢
 split at hok
 ·simp at hok
 ·next h1=>
  split at hok
  ·next h2=>
   rw[Af h1,Ai h2];exact mk [] [Ce s l] (by simp) (by simp) (by simp) (by simpa using z)
  ·next h2=>
   split at hok
   ·simp at hok
   ·next h3=>
    rw[Af h1,Af h2,Af h3];have j:=cB s (Ce s l) (AT (Bf s l).rest 58) z;exact mk _ _ j.lits (by have:=j.ah;omega) j.lok j.sok
theorem ZA(s:ByteArray):∀(f:Nat) (ds:List Bd) (l:B8),ds.length+f<=40->(∀d∈ds,d.WF)->(EP s f ds l).cls.length<=40/\∀d∈(EP s f ds l).cls,d.WF:=by
 intro f
 induction f with
 |zero=>intro ds l h1 h2;unfold EP;split<;>exact⟨h1,h2⟩
 |succ f q=>
  intro ds l h1 h2;unfold EP
  split
  ·exact⟨by simp only[];omega,h2⟩
  ·split
   ·exact⟨by simp only[];omega,h2⟩
   ·next hok=>
    refine q _ _ (by simp;omega) ?_;intro d hd;simp at hd;rcases hd with hd|rfl
    ·exact h2 d hd
    ·exact VN s _ (by simpa using hok)
theorem Iu(s:ByteArray):(Bs s).cls.length<=40/\∀d∈(Bs s).cls,d.WF:=ZA s 40 [] _ (by simp) (by simp)
end
section
attribute [local go_sem] AE As
open Go.RowKit Go.WideMaps Go.Maps
def Fl(w:World)(base:Nat)(d:Bd)(cs:List Value):Prop:=∃q,cs=Bp d.name d.ts++[q]/\w.ownsRow base 186 6 q d.lits.length (d.lits.flatMap BQ.cells)
def AY(w:World)(base:Nat)(v:Value)(ds:List Bd):Prop:=
 ∃rows:List (List Value),w.ownsRow base 86 6 v ds.length rows.flatten/\rows.length=ds.length/\∀(i:Nat) (d:Bd) (cs:List Value),ds[i]? =some d->rows[i]? =some cs->Fl w base d cs
def Dm(w:World)(base bb:Nat)(ds:List Bd):Prop:=∃v,Aw w bb [v] 59/\AY w base v ds
theorem Fl.below{w w':World}{base:Nat}{d:Bd}{cs:List Value}(h:Fl w base d cs)(hb:Below w.heap.size w w'):Fl w' base d cs:=by obtain⟨q,hc,j⟩:=h;exact⟨q,hc,Ah j hb⟩
theorem AY.below{w w':World}{base:Nat}{v:Value}{ds:List Bd}(h:AY w base v ds)(hb:Below w.heap.size w w'):AY w' base v ds:=by obtain⟨rows,j,q,z⟩:=h;exact⟨rows,Ah j hb,q,fun i d cs hd hc=>(z i d cs hd hc).below hb⟩
theorem Dm.below{w w':World}{base bb:Nat}{ds:List Bd}(h:Dm w base bb ds)(hb:Below w.heap.size w w'):Dm w' base bb ds:=by obtain⟨v,h1,h2⟩:=h;exact⟨v,h1.below hb,h2.below hb⟩
theorem Fl.set{w:World}{base:Nat}{d:Bd}{cs:List Value}(h:Fl w base d cs){b:Nat}{q:List Value}{t:TypeId}(hb:Aw w b q t)(ht:t≠186)(o:Nat)(x:Value):Fl (w.setCell ⟨b,o,none⟩ x) base d cs:=by obtain⟨z,hc,j⟩:=h;exact⟨z,hc,AJ j ⟨b,o,none⟩ x (Av j hb ht)⟩
theorem AY.set{w:World}{base:Nat}{v:Value}{ds:List Bd}(h:AY w base v ds){b:Nat}{q:List Value}{t:TypeId}(hb:Aw w b q t)(h1:t≠86)(h2:t≠186)(o:Nat)(x:Value):AY (w.setCell ⟨b,o,none⟩ x) base v ds:=by obtain⟨rows,j,z,y⟩:=h;exact⟨rows,AJ j ⟨b,o,none⟩ x (Av j hb h1),z,fun i d cs hd hc=>(y i d cs hd hc).set hb h2 o x⟩
theorem AY.nil(w:World)(base:Nat):AY w base (.slice none 0 0) []:=⟨[],Ak _ _ _ _,rfl,by simp⟩
theorem AY.form{w:World}{base:Nat}{v:Value}{ds:List Bd}(h:AY w base v ds):∃ao cap,v=.slice ao ds.length cap:=by obtain⟨rows,q,hl,hr⟩:=h;exact Au q
theorem AY.more{w w':World}{base:Nat}{v v':Value}{ds:List Bd}{d:Bd}{cs:List Value}{rows:List (List Value)}(r:∀(i:Nat) (d:Bd) (cs:List Value),ds[i]? =some d->rows[i]? =some cs->Fl w base d cs)(z:rows.length=ds.length)
 (t:w.ownsRow base 86 6 v ds.length rows.flatten)(hd:Fl w base d cs)
 (j:w'.ownsRow base 86 6 v' (ds.length+1) (rows.flatten++cs))(g:w.grownBy w' v.ownBlock):AY w' base v' (ds++[d]):=by
 have step:∀d cs,Fl w base d cs->Fl w' base d cs:=by rintro d cs ⟨y,hc,q⟩;exact⟨y,hc,q.kept g (Em q t (by decide))⟩
 refine⟨rows++[cs],by simpa using j,by simp[z],?_⟩;intro i u cs' h1 h2;by_cases b:i<ds.length
 ·rw[AU b]at h1;rw[AU (by omega)]at h2;exact step _ _ (r i u cs' h1 h2)
 ·rw[A0 (by omega)]at h1;rw[A0 (by omega),z]at h2
  cases hk:i-ds.length with
  |zero=>rw[hk]at h1 h2;simp at h1 h2;subst h1;subst h2;exact step _ _ hd
  |succ k=>rw[hk]at h1;simp at h1
theorem kF{w:World}{base base':Nat}{e:TypeId}{size g n cap m:Nat}{xs:List Value}(h:w.ownsRow base e size (.slice (some ⟨g,0,none⟩) n cap) m xs)(hb:base'<=g):w.ownsRow base' e size (.slice (some ⟨g,0,none⟩) n cap) m xs:=by
 refine⟨h.1,?_⟩;rcases h.2 with⟨h1,_⟩|⟨g',q,cur,j,hg,r⟩
 ·simp at h1
 ·refine .inr ⟨g',q,cur,j,?_,r⟩;simp at j;omega
theorem Ol:(prog.info? 86).map (fun i=>(i.zero,i.size,i.bytes))=some (some (.agg #[.string ⟨#[]⟩,.int .i64 0,.string ⟨#[]⟩,.string ⟨#[]⟩,.string ⟨#[]⟩,.slice none 0 0]),6,96):=by kernel_rfl
def Gn(s:ByteArray):Nat×Nat:=if 2000<s.size then(1,0) else if(Bs s).ok=false then(2,Bn s (Bs s).rest) else Ef (Bs s).cls
def Gk(w:World)(s:ByteArray)(e:Ending)(w':World):Prop:=
 (if(Gn s).1=0 then ∃bb,e=.returned (.tuple #[.pointer (some ⟨bb,0,none⟩),.int .i64 0,.int .i64 0])/\w.heap.size<=bb/\Dm w' w.heap.size bb (Bs s).cls
   else e=.returned (.tuple #[.pointer none,.int .i64 (Gn s).1,.int .i64 (Gn s).2]))/\Below w.heap.size w w'
theorem VA(ds:List Bd)(h:(Ef ds).1=0):Ef ds=(0,0):=by
 unfold Ef at*
 split at h
 ·simp at h
 ·split at h
  ·simp at h
  ·split at h
   ·simp at h
   ·rfl
theorem XO(w:World)(s:ByteArray)(hs:s.size<=maxLen)(h:2000<s.size):Calls prog 12 #[.string s] w fun e w'=>Gk w s e w':=by
 have j:=Ao (show Gn s=(1,0) by simp[Gn,h]);have q:=hs;unfold maxLen at q;have hq:(2000:Int)<(s.size:Int):=by omega
 go_enter func12,ntmps12;go_wp2
 go_ret3
 unfold Gk;rw[j.out];exact⟨rfl,Ag _ _⟩
theorem XP(w:World)(s:ByteArray)(h:s.size<=2000)(hok:(Bs s).ok=false):Calls prog 12 #[.string s] w fun e w'=>Gk w s e w':=by
 have z:=Ao (show Gn s=(2,Bn s (Bs s).rest) by simp[Gn,hok,show ¬2000<s.size by omega]);have hq:¬((2000:Int)<(s.size:Int)):=by omega
 go_enter func12,ntmps12;go_wp2_with (go_at_call 25;refine(IH _ s (by omega)).mono ?_;rintro e w1 ⟨v,j,-,q⟩;simp only[NZ,hok]at j;subst j)
 go_ret3
 unfold Gk;rw[z.out];exact⟨rfl,q⟩
theorem Vg(w:World)(s:ByteArray)(h:s.size<=2000)(hok:(Bs s).ok=true)(d:(Ef (Bs s).cls).1≠0):Calls prog 12 #[.string s] w fun e w'=>Gk w s e w':=by
 have p:=Ao (show Gn s=Ef (Bs s).cls by simp[Gn,hok,show ¬2000<s.size by omega]);have hq:¬((2000:Int)<(s.size:Int)):=by omega
 have z:=Iu s;obtain⟨ds,HD⟩:∃ds,Hid (ds=(Bs s).cls):=⟨_,rfl⟩;rw[<-HD.out]at d z p;obtain⟨f1,j⟩:∃f1,(Ef ds).1=f1:=⟨_,rfl⟩;obtain⟨f2,g⟩:∃f2,(Ef ds).2=f2:=⟨_,rfl⟩;have q0:(((f1:Nat):Int) != 0)=true:=by rw[GG];omega
 have t:=Ao j;have r:=Ao g;rw[j]at d;clear j g;go_enter func12,ntmps12;go_wp2_with (first|(go_at_call 25;refine(IH _ s (by omega)).mono ?_;rintro e w1 ⟨v,u,k,y⟩;simp only[NZ,hok]at u;have q:=k hok;rw[<-HD.out]at q;obtain⟨ao,cap,rfl⟩:=q.form;subst u;clear k)|(go_at_call 26;refine(M2 _ w.heap.size ao cap ds (by exact q) z.2 z.1).mono ?_;rintro e w2 ⟨u,b⟩;rw[t.out,r.out]at u;subst u))
 go_ret3
 unfold Gk;rw[p.out,t.out,r.out,Af d];exact⟨rfl,y.trans (b.mono y.size)⟩
theorem Yn(w:World)(base:Nat)(ao:Option Addr)(cap:Nat)(ds:List Bd)(O:DG w base (.slice ao ds.length cap) ds)(j:base<=w.heap.size)(hn:ds.length<=40):
 Calls prog 27 #[.slice ao ds.length cap] w fun e w'=>∃v,e=.returned v/\AY w' base v ds/\Below w.heap.size w w':=by
 obtain⟨I,U,P,C,M⟩:=Bc Ol;go_enter func27,ntmps27;go_wp2
 go_loopw [3,8] (fun v N wr=>∃(k:Nat) (rows:List (List Value)),k<=ds.length/\N=.int .i64 k/\wr.ownsRow w.heap.size 86 6 v k rows.flatten/\Hid (rows.length=k)/\
  (∀(i:Nat) (d:Bd) (cs:List Value),(ds.take k)[i]? =some d->rows[i]? =some cs->Fl wr base d cs)/\Below w.heap.size w wr) (fun _ N _=>ds.length-(intOf N).toNat)
 case atStart=>exact⟨0,[],by omega,rfl,Ak _ _ _ _,rfl,by simp,Ag _ _⟩
 case round=>
  obtain⟨k,rows,hk,rfl,s,m,B,o⟩:=hrel;obtain⟨vo,q1,rfl⟩:=Au s;have R:=o.size;by_cases y:k<ds.length
  ·obtain⟨g,bo,bcap,so,scap,Y,hg,e0,e1,e2,e3,e4,e5,e6,Z,q2⟩:=IZ (O.below o) k y;subst Y;have q:(ds.take (k+1))=ds.take k++[ds[k]]:=Ad y;generalize V:ds[k]=d at*;have l:=Ao q;clear V q;have J:Fl wr base d [Value.string d.nm,.int .i64 d.cn,.string (d.t 0),.string (d.t 1),.string (d.t 2),.slice bo d.lits.length bcap]:=⟨.slice bo d.lits.length bcap,rfl,Z⟩;have K:=A9 s;go_wp2_with (at_builtin;refine AF _ rfl _ _ 56 rfl w.heap.size 86 I _ 6 96 underlying56 U P C M rfl (by decide) _ k rows.flatten rfl ((s.alloc _).alloc _) ⟨wr.heap.size+1,0,none⟩ 1 [Value.string d.nm,.int .i64 d.cn,.string (d.t 0),.string (d.t 1),.string (d.t 2),.slice bo d.lits.length bcap] rfl rfl (Gu _ _ _ _) (by intro u E;simp at E;rcases E with rfl|rfl|rfl|rfl|rfl|rfl<;>rfl) (by unfold maxLen;omega) (by omega) (by simp;omega) ?_;intro A q0 w3 f n);have z:(ds.take k).length=k:=by simp;omega
   have h2:∀X S,Below wr.heap.size wr ((wr.alloc X).alloc S):=fun X S=>((Ag _ wr).alloc (Ab _) X).alloc (by simp) S;have b:=AY.more (w:=(wr.alloc _).alloc _) (w':=w3) (base:=base) (ds:=ds.take k) (fun i d cs h1 h3=>(B i d cs h1 h3).below (h2 _ _)) (by rw[m.out,z]) (by rw[z];exact BS ((s.alloc _).alloc _) j) (J.below (h2 _ _)) (by rw[z];exact BS f j) n;have Q:Below w.heap.size w w3:=(o.trans ((h2 _ _).mono R)).grown n (by simp;omega) K;obtain⟨c,r,p,a⟩:=b;rw[<-l.out]at r p a;have x:(ds.take (k+1)).length=k+1:=by simp;omega
   rw[x]at r p;exact⟨⟨k+1,c,y,by go_num,kF r (A9 f A rfl),p,a,Q⟩,by simp[intOf];omega⟩
  ·have G:k=ds.length:=by omega
   go_wp2
   go_ret
   subst G;rw[AL]at B;exact⟨_,rfl,⟨rows,BS s j,m.out,B⟩,o⟩
theorem fJ(w:World)(s:ByteArray)(h:s.size<=2000)(hok:(Bs s).ok=true)(m:(Ef (Bs s).cls).1=0):Calls prog 12 #[.string s] w fun e w'=>Gk w s e w':=by
 have z:=VA _ m;have x:=Ao (show Gn s=(0,0) by simp[Gn,hok,z,show ¬2000<s.size by omega]);have hq:¬((2000:Int)<(s.size:Int)):=by omega
 have q:=Iu s;obtain⟨ds,HD⟩:∃ds,Hid (ds=(Bs s).cls):=⟨_,rfl⟩;rw[<-HD.out]at z q;have f:=Ao z;clear z m;have hn:=q.1;go_enter func12,ntmps12;go_wp2_with (first|(go_at_call 25;refine(IH _ s (by omega)).mono ?_;rintro e w1 ⟨v,b,r,u⟩;simp only[NZ,hok]at b;have j:=r hok;rw[<-HD.out]at j;obtain⟨ao,cap,rfl⟩:=j.form;subst b;clear r)|(go_at_call 26;refine(M2 _ w.heap.size ao cap ds (by exact j) q.2 q.1).mono ?_;rintro e w2 ⟨b,g⟩;rw[f.out]at b;simp only[]at b;subst b)|(go_at_call 27;refine(Yn _ w.heap.size ao cap ds (by exact j.below g) (by have:=u.size;have:=g.size;omega) q.1).mono ?_;rintro e w3 ⟨v3,rfl,t,c⟩;obtain⟨p,d,rfl⟩:=t.form))
 go_ret3
 unfold Gk;rw[x.out,<-HD.out];have y:Below w.heap.size w w2:=u.trans (g.mono u.size);have k:Below w.heap.size w w3:=y.trans (c.mono y.size);have n:=k.size;exact⟨⟨w3.heap.size,rfl,n,_,Aw.new w3 [.slice p ds.length d] 59,t.below (Ac w3 _)⟩,k.alloc n _⟩
theorem ZS(w:World)(s:ByteArray)(hs:s.size<=maxLen):Calls prog 12 #[.string s] w fun e w'=>Gk w s e w':=by
 by_cases h:2000<s.size
 ·exact XO w s hs h
 ·cases hok:(Bs s).ok
  ·exact XP w s (by omega) hok
  ·by_cases q:(Ef (Bs s).cls).1=0
   ·exact fJ w s (by omega) hok q
   ·exact Vg w s (by omega) hok q
end
section
structure Pc where
 mark:UInt8
 s:B8
 pl:Nat
def EY(c:Int):Bool:=c==40||c==41||c==44||c==46||c==33
def CU(q:Int->Bool):B8->Nat
 |[]=>0
 |c::l=>if q (c.toNat:Int)=true then CU q l+1 else 0
def Lm(p:Nat)(c:UInt8)(l:B8):Option (List Pc×Nat):=
 if Cf (c.toNat:Int)=true then some ([],1)
 else if EY (c.toNat:Int)=true then some ([⟨c,[],p⟩],1)
 else if((c.toNat:Int)==58&&hd l==45)=true then some ([⟨c,[],p⟩],2)
 else if small (c.toNat:Int)=true then(if 12<CU Ax l+1 then none else some ([⟨110,(c::l).take (CU Ax l+1),p⟩],CU Ax l+1))
 else if CT (c.toNat:Int)=true then(if 12<CU AI l+1 then none else some ([⟨118,(c::l).take (CU AI l+1),p⟩],CU AI l+1))
 else none
theorem Wx{p:Nat}{c:UInt8}{l:B8}{q:List Pc}{k:Nat}(h:Lm p c l=some (q,k)):0<k:=by
 unfold Lm at h
 repeat' split at h
 all_goals simp at h
 all_goals omega
def Xa(n:Nat):Nat->B8->Option (List Pc)
 |_,[]=>some []
 |0,_::_=>none
 |f+1,c::l=>match Lm (n-(l.length+1)) c l with
  |none=>none
  |some (q,k)=>(Xa n f ((c::l).drop k)).map (q++ ·)
theorem W9(n:Nat)(f:Nat):∀(g:Nat) (l:B8),l.length<=f->l.length<=g->Xa n f l=Xa n g l:=by
 induction f with
 |zero=>intro g l h1 h2;cases l with
  |nil=>cases g<;>rfl
  |cons c l=>simp at h1
 |succ f j=>
  intro g l h1 h2
  cases l with
  |nil=>cases g<;>rfl
  |cons c l=>
   cases g with
   |zero=>simp at h2
   |succ g=>
    unfold Xa
    cases hp:Lm (n-(l.length+1)) c l with
    |none=>rfl
    |some x=>obtain⟨q,k⟩:=x;have hk:=Wx hp;simp only[];rw[j g _ (by simp at*;omega) (by simp at*;omega)]
def T(n:Nat)(l:B8):Option (List Pc):=Xa n l.length l
theorem Uo(n:Nat):T n []=some []:=rfl
theorem IM(n:Nat)(c:UInt8)(l:B8):T n (c::l)=match Lm (n-(c::l).length) c l with
 |none=>none
 |some (q,k)=>(T n ((c::l).drop k)).map (q++ ·):=by
 unfold T;rw[List.length_cons,Xa]
 cases hp:Lm (n-(l.length+1)) c l with
 |none=>rfl
 |some x=>obtain⟨q,k⟩:=x;have hk:=Wx hp;simp only[];rw[W9 n l.length _ _ (by simp;omega) (Ab _)]
theorem S8(o:Option (List Pc)):o.map (([]:List Pc)++ ·)=o:=by cases o<;>simp
theorem OZ(n:Nat)(l:B8):T n (AD l)=T n l:=by
 induction l with
 |nil=>rfl
 |cons c l q=>
  unfold AD
  split
  ·rename_i hb;rw[q,IM,Lm,Ai hb];simp only[Cm,B4];rw[S8]
  ·rfl
theorem Ee(l:B8):AD l=[]\/∃c r,AD l=c::r/\Cf (c.toNat:Int)=false:=by
 induction l with
 |nil=>exact .inl rfl
 |cons c l q=>
  unfold AD
  split
  ·exact q
  ·rename_i hb;exact .inr ⟨c,l,rfl,by simpa using hb⟩
theorem Gs(l:B8):AD (AD l)=AD l:=by
 rcases Ee l with h|⟨c,r,h,hb⟩
 ·rw[h];rfl
 ·rw[h];simp[AD,hb]
theorem dC(n:Nat)(c:UInt8)(l:B8)(h:EY (c.toNat:Int)=true):T n (c::l)=(T n l).map (⟨c,[],n-(c::l).length⟩:: ·):=by
 have hb:Cf (c.toNat:Int)=false:=by unfold EY at h;unfold Cf;simp only[jC,Co]at h;rw[Bb];constructor<;>(rw[Az];omega)
 rw[IM,Lm,Af (by simp[hb]),Ai h];rfl
theorem iO(n:Nat)(l:B8):T n (58::l)=if(hd l==45)=true then(T n l.tail).map (⟨58,[],n-(58::l).length⟩:: ·) else none:=by
 rw[IM,Lm,Af (by decide),Af (by decide)];have e:(((58:UInt8).toNat:Int)==58)=true:=by decide
 rw[e,BD];cases h:(hd l==45)
 ·rw[Af (by simp),Af (by decide),Af (by decide)];rfl
 ·cases l with
  |nil=>simp[hd]at h
  |cons d r=>rfl
theorem WY(q:Int->Bool)(n:Nat)(l:B8):(Bt q n l=CU q l/\q (hd (l.drop (Bt q n l)))=q (hd (l.drop (CU q l)))/\CU q l<=n)\/(Bt q n l=n/\n<CU q l):=by
 induction n generalizing l with
 |zero=>
  cases l with
  |nil=>left;simp[Bt,CU]
  |cons c l=>
   unfold Bt CU
   split
   ·right;simp
   ·left;simp
 |succ n j=>
  cases l with
  |nil=>left;simp[Bt,CU]
  |cons c l=>
   unfold Bt CU
   split
   ·rcases j l with⟨h1,h2,h3⟩|⟨h1,h2⟩
    ·left;exact⟨by rw[h1],by simpa using h2,by omega⟩
    ·right;exact⟨by rw[h1],by omega⟩
   ·left;simp
theorem WZ(q:Int->Bool)(n:Nat)(l:B8)(h:n<CU q l):q (hd (l.drop n))=true:=by
 induction n generalizing l with
 |zero=>
  cases l with
  |nil=>simp[CU]at h
  |cons c l=>
   unfold CU at h
   split at h
   ·rename_i hc;simpa[hd]using hc
   ·omega
 |succ n j=>
  cases l with
  |nil=>simp[CU]at h
  |cons c l=>
   unfold CU at h
   split at h
   ·simpa using j l (by omega)
   ·omega
def OX(p:Pc):Prop:=p.mark=110\/p.mark=118
theorem Pp:Ax 0=false:=by decide
theorem Od:AI 0=false:=by decide
theorem Ed(c:Int)(h:small c=true):Ax c=true/\Cf c=false/\EY c=false/\(c==58)=false/\AI c=true:=by
 unfold small at h;simp only[Cp,L4]at h;have hs:small c=true:=by unfold small;simp[h]
 refine⟨by simp[Ax,hs],?_,?_,?_,by simp[AI,Ax,hs]⟩
 ·unfold Cf;rw[Bb];constructor<;>(rw[Az];omega)
 ·unfold EY;simp only[Bb,Az];omega
 ·rw[Az];omega
theorem Ia(c:Int)(h:CT c=true):AI c=true/\Cf c=false/\EY c=false/\(c==58)=false/\small c=false:=by
 unfold CT at h;simp only[Cp,L4]at h;have hs:CT c=true:=by unfold CT;simp[h]
 refine⟨by simp[AI,hs],?_,?_,?_,?_⟩
 ·unfold Cf;rw[Bb];constructor<;>(rw[Az];omega)
 ·unfold EY;simp only[Bb,Az];omega
 ·rw[Az];omega
 ·unfold small;rw[PM];left;simp;omega
theorem R4(n:Nat)(m:B8)(h:small (hd m)=true):T n m=if 12<CU Ax m then none else(T n (m.drop (CU Ax m))).map (⟨110,m.take (CU Ax m),n-m.length⟩:: ·):=by
 cases m with
 |nil=>simp[hd,small]at h
 |cons c l=>
  have z:small (c.toNat:Int)=true:=h;obtain⟨f1,f2,y,v,_⟩:=Ed _ z;have e:CU Ax (c::l)=CU Ax l+1:=by rw[CU,Ai f1]
  rw[e,IM,Lm,Af (by simp[f2]),Af (by simp[y]),Af (by simp[v]),Ai z]
  split
  ·rename_i x hx;split at hx
   ·rename_i j;rw[Ai j]
   ·simp at hx
  ·rename_i x q k hx;split at hx
   ·simp at hx
   ·rename_i j;rw[Af j];simp only[Al,CW]at hx;obtain⟨rfl,rfl⟩:=hx;rfl
theorem R5(n:Nat)(m:B8)(h:CT (hd m)=true):T n m=if 12<CU AI m then none else(T n (m.drop (CU AI m))).map (⟨118,m.take (CU AI m),n-m.length⟩:: ·):=by
 cases m with
 |nil=>simp[hd,CT]at h
 |cons c l=>
  have z:CT (c.toNat:Int)=true:=h;obtain⟨f1,f2,y,v,u⟩:=Ia _ z;have e:CU AI (c::l)=CU AI l+1:=by rw[CU,Ai f1]
  rw[e,IM,Lm,Af (by simp[f2]),Af (by simp[y]),Af (by simp[v]),Af (by simp[u]),Ai z]
  split
  ·rename_i x hx;split at hx
   ·rename_i j;rw[Ai j]
   ·simp at hx
  ·rename_i x q k hx;split at hx
   ·simp at hx
   ·rename_i j;rw[Af j];simp only[Al,CW]at hx;obtain⟨rfl,rfl⟩:=hx;rfl
theorem iN(n:Nat)(m:B8)(h:AI (hd m)=true)(qs:List Pc)(hq:T n m=some qs):∃p r,qs=p::r/\OX p:=by
 by_cases h1:small (hd m)=true
 ·rw[R4 n m h1]at hq
  split at hq
  ·simp at hq
  ·rw[CC]at hq;obtain⟨r,_,rfl⟩:=hq;exact⟨_,r,rfl,.inl rfl⟩
 ·by_cases h2:CT (hd m)=true
  ·rw[R5 n m h2]at hq
   split at hq
   ·simp at hq
   ·rw[CC]at hq;obtain⟨r,_,rfl⟩:=hq;exact⟨_,r,rfl,.inr rfl⟩
  ·cases m with
   |nil=>simp[hd,AI,CT,Ax,small]at h
   |cons c l=>
    exfalso;have q0:48<=(c.toNat:Int)/\(c.toNat:Int)<=57:=by have h3:AI (c.toNat:Int)=true:=h;have q:¬small (c.toNat:Int)=true:=h1;have j:¬CT (c.toNat:Int)=true:=h2;unfold AI Ax at h3;simp only[DA]at q j;rw[q,j]at h3;simpa using h3
    have f1:Cf (c.toNat:Int)=false:=by unfold Cf;rw[Bb];constructor<;>(rw[Az];omega)
    have f2:EY (c.toNat:Int)=false:=by unfold EY;simp only[Bb,Az];omega
    have z:((c.toNat:Int)==58)=false:=by rw[Az];omega
    rw[IM,Lm,Af (by simp[f1]),Af (by simp[f2]),Af (by simp[z]),Af (show ¬small (c.toNat:Int)=true from h1),Af (show ¬CT (c.toNat:Int)=true from h2)]at hq;simp at hq
theorem Ma{A:Type}(n:Nat)(m:B8)(q:Int->Bool)(j:∀c,q c=true->AI c=true)(mk:UInt8)
 (z:T n m=if 12<CU q m then none else(T n (m.drop (CU q m))).map (⟨mk,m.take (CU q m),n-m.length⟩:: ·))(K:List Pc->Option A)(G:Pc->List Pc->Option A)
 (y:∀p,p.mark=mk->p.s=m.take (Bt q 12 m)->p.pl=n-m.length->∀r,G p r=K r)(k:∀p r,OX p->K (p::r)=none):
 (T n m).bind (fun ps=>match ps with|p::r=>G p r|[]=>none)=(T n (m.drop (Bt q 12 m))).bind K:=by
 rcases WY q 12 m with⟨h1,h2,h3⟩|⟨h1,h2⟩
 ·rw[z,Af (by omega),h1]
  cases hq:T n (m.drop (CU q m)) with
  |none=>rfl
  |some qs=>exact y ⟨mk,m.take (CU q m),n-m.length⟩ rfl (by rw[h1]) rfl qs
 ·rw[z,Ai h2,h1]
  cases hq:T n (m.drop 12) with
  |none=>rfl
  |some qs=>obtain⟨p,r,rfl,v⟩:=iN n _ (j _ (WZ q 12 m h2)) qs hq;rw[Option.bind_some,k p r v];rfl
structure RT where
 s:B8
 var:Bool
 pl:Nat
structure RA where
 name:B8
 ts:List RT
 pl:Nat
 af:Nat
 neg:Bool
structure RC where
 head:RA
 body:List RA
def Pc.rt(p:Pc):RT:=⟨p.s,p.mark==118,p.pl⟩
def Ei(p:Pc):Bool:=p.mark==110||p.mark==118
def BU:List RT->List Pc->Option (List RT×List Pc)
 |_,[]=>none
 |acc,p::r=>
  if Ei p=true then
   match r with
   |[]=>some (acc++[p.rt],[])
   |q::r'=>if(q.mark==44)=true then BU (acc++[p.rt]) r' else some (acc++[p.rt],q::r')
  else none
def Dj{A:Type}(K:List RT->List Pc->Option A)(x:List RT×List Pc):Option A:=
 match x.2 with
 |[]=>none
 |c::r=>if(c.mark==41&&decide (x.1.length<=3))=true then K x.1 r else none
def C7(neg:Bool)(bang:Nat):List Pc->Option (RA×List Pc)
 |[]=>none
 |p::r=>
  if(p.mark==110)=true then
   match r with
   |[]=>some (⟨p.s,[],p.pl,bang,neg⟩,[])
   |q::r'=>if(q.mark==40)=true then(BU [] r').bind (Dj fun ts j=>some (⟨p.s,ts,p.pl,bang,neg⟩,j)) else some (⟨p.s,[],p.pl,bang,neg⟩,q::r')
  else none
def BF:List Pc->Option (RA×List Pc)
 |[]=>none
 |p::r=>if(p.mark==33)=true then C7 true p.pl r else C7 false 0 (p::r)
def EW(acc:List RA)(p:Pc):Bool:=p.mark==58&&acc.isEmpty||p.mark==44&& !acc.isEmpty
def Kd:Nat->List RA->List Pc->Option (List RA×List Pc)
 |0,acc,ps=>some (acc,ps)
 |_+1,acc,[]=>some (acc,[])
 |f+1,acc,p::r=>if EW acc p=true then(BF r).bind fun x=>Kd f (acc++[x.1]) x.2 else some (acc,p::r)
def CF(ps:List Pc):Option (RC×List Pc):=
 (BF ps).bind fun x=>
   if x.1.neg=true then none
   else(Kd x.2.length [] x.2).bind fun y=>
    match y.2 with
    |[]=>none
    |p::r=>if(p.mark==46&&decide (y.1.length<=4))=true then some (⟨x.1,y.1⟩,r) else none
def P6:Nat->List RC->List Pc->Option (List RC)
 |_,acc,[]=>some acc
 |0,_,_::_=>none
 |f+1,acc,p::r=>(CF (p::r)).bind fun x=>if acc.length=40 then none else P6 f (acc++[x.1]) x.2
theorem Sv(acc:List RT)(ps:List Pc)(ts:List RT)(r:List Pc)(h:BU acc ps=some (ts,r)):acc.length<ts.length:=by
 induction hn:ps.length using Nat.strongRecOn generalizing acc ps with
 |_ n j=>
  cases ps with
  |nil=>simp[BU]at h
  |cons p ps=>
   unfold BU at h
   split at h
   ·cases ps with
    |nil=>simp at h;rw[<-h.1];simp
    |cons q r'=>
     simp only[]at h
     split at h
     ·have:=j r'.length (by simp at hn;omega) _ _ h rfl;simp at this;omega
     ·simp at h;rw[<-h.1];simp
   ·simp at h
theorem Wg(n:Nat)(l:B8){A:Type}(K:List Pc->Option A):(T n l).bind K=(T n (AD l)).bind K:=by rw[OZ]
theorem fE(c:UInt8)(m:Nat)(hm:m<256)(h:((c.toNat:Int)==(m:Int))=true):c=UInt8.ofNat m:=by rw[Co]at h;apply UInt8.toNat_inj.1;rw[UInt8.toNat_ofNat'];omega
def DP{A:Type}(m:UInt8)(K E:List Pc->Option A):List Pc->Option A
 |[]=>E []
 |p::r=>if(p.mark==m)=true then K r else E (p::r)
def Hx{A:Type}(G:RT->List Pc->Option A):List Pc->Option A
 |[]=>none
 |p::r=>if Ei p=true then G p.rt r else none
theorem WT(n:Nat)(l:B8)(m:UInt8)(j:EY (m.toNat:Int)=true\/m=58){A:Type}(K:List Pc->Option A)(E:List Pc->Option A):
 (T n l).bind (DP m K E)=
   if AX l (m.toNat:Int)=true then(if m=58 then(if(hd (AT l 58)==45)=true then(T n (AT l 58).tail).bind K else none) else(T n (AT l (m.toNat:Int))).bind K) else(T n l).bind E:=by
 rw[Wg n l E,Wg];unfold AT;rcases Ee l with h|⟨c,r,h,hb⟩
 ·have ht:AX l (m.toNat:Int)=false:=by
   unfold AX;rw[h];rw[Az];intro e;rcases j with j|rfl
   ·rw[<-e]at j;simp[hd,EY]at j
   ·simp[hd]at e
  rw[ht,h,Uo];rfl
 ·have v:∀x:Int,AX l x=((c.toNat:Int)==x):=by intro x;unfold AX;rw[h];rfl
  rw[h,v];by_cases hc:c=m
  ·subst hc;rw[Ai (by simp)];by_cases y:c=58
   ·subst y;have u:(if(((58:UInt8).toNat:Int)==58)=true then(58::r).tail else 58::r)=r:=rfl;rw[Ai rfl,v,u,iO];cases hh:(hd r==45)
    ·rfl
    ·rw[Ai rfl,Ai rfl]
     cases T n r.tail with
     |none=>rfl
     |some q=>rfl
   ·rw[Af y];have u:(if(((c.toNat:Int))==(c.toNat:Int))=true then(c::r).tail else c::r)=r:=by simp
    rw[u]
    have hs:EY (c.toNat:Int)=true:=by
     rcases j with j|rfl
     ·exact j
     ·exact absurd rfl y
    rw[dC n c r hs]
    cases T n r with
    |none=>rfl
    |some q=>simp[DP]
  ·have g:((c.toNat:Int)==(m.toNat:Int))=false:=by rw[Az];intro e;exact hc (UInt8.toNat_inj.1 (by omega))
   rw[g,Af (by simp)]
   have b:∀qs,T n (c::r)=some qs->∃p q,qs=p::q/\p.mark≠m:=by
    intro qs hq;rw[IM]at hq;unfold Lm at hq
    have k:m≠110/\m≠118:=by
     rcases j with j|rfl
     ·constructor<;>(intro e;subst e;simp[EY]at j)
     ·decide
    repeat' split at hq
    all_goals first|(simp at hq;done)|skip
    all_goals (rename_i z;repeat' split at z)
    all_goals first|(simp at z;done)|skip
    all_goals (simp only[Al,CW]at z;obtain⟨rfl,rfl⟩:=z)
    all_goals (rw[CC]at hq;obtain⟨q,_,rfl⟩:=hq)
    ·exfalso;simp_all
    ·exact⟨_,q,rfl,hc⟩
    ·exact⟨_,q,rfl,hc⟩
    ·exact⟨_,q,rfl,fun e=>k.1 e.symm⟩
    ·exact⟨_,q,rfl,fun e=>k.2 e.symm⟩
   cases hq:T n (c::r) with
   |none=>rfl
   |some qs=>obtain⟨p,q,rfl,d⟩:=b qs hq;simp[DP,d]
theorem Kg(n:Nat)(l:B8)(m:UInt8)(q:Int)(z:(m.toNat:Int)=q)(j:EY q=true){A:Type}(K E:List Pc->Option A):
 (T n l).bind (DP m K E)=if AX l q=true then(T n (AT l q)).bind K else(T n l).bind E:=by
 subst z;rw[WT n l m (.inl j) K E,Af (show ¬m=58 by intro e;subst e;simp[EY]at j)]
theorem PK(n:Nat)(l:B8){A:Type}(K E:List Pc->Option A):
 (T n l).bind (DP 58 K E)=if AX l 58=true then(if(hd (AT l 58)==45)=true then(T n (AT l 58).tail).bind K else none) else(T n l).bind E:=by
 have h:=WT n l 58 (.inr rfl) K E;rw[Ai rfl]at h;exact h
theorem E7(l:B8)(m:Int):AX (AD l) m=AX l m:=by unfold AX;rw[Gs]
theorem FU(l:B8)(m:Int):AT (AD l) m=AT l m:=by unfold AT;rw[E7,Gs]
theorem DC(l:B8)(m:Int)(h:AX l m=false):AT l m=AD l:=by unfold AT;rw[h];rfl
theorem LX(n:Nat)(m:B8)(hb:Cf (hd m)=false)(h1:small (hd m)=false)(h2:CT (hd m)=false)(qs:List Pc)(hq:T n m=some qs):qs=[]\/∃p r,qs=p::r/\Ei p=false:=by
 cases m with
 |nil=>rw[Uo]at hq;simp at hq;exact .inl hq
 |cons c l=>
  right
  have z:small (c.toNat:Int)=false:=h1;have y:CT (c.toNat:Int)=false:=h2;have k:Cf (c.toNat:Int)=false:=hb;rw[IM]at hq;unfold Lm at hq;rw[Af (by simp[k])]at hq;by_cases hs:EY (c.toNat:Int)=true
  ·rw[Ai hs]at hq;simp only[]at hq;rw[CC]at hq;obtain⟨q,_,rfl⟩:=hq;refine⟨_,q,rfl,?_⟩;unfold Ei;rw[Bb];constructor<;>(rw[Az];intro e;simp only[]at e;subst e;simp[EY]at hs)
  ·rw[Af hs]at hq;by_cases j:((c.toNat:Int)==58&&hd l==45)=true
   ·rw[Ai j]at hq;simp only[]at hq;rw[CC]at hq;obtain⟨q,_,rfl⟩:=hq;refine⟨_,q,rfl,?_⟩;simp only[Cp,Co]at j;unfold Ei;rw[Bb];constructor<;>(rw[Az];intro e;simp only[]at e;rw[e]at j;simp at j)
   ·rw[Af j,Af (by simp[z]),Af (by simp[y])]at hq;simp at hq
theorem Ds(l:B8):Cf (hd (AD l))=false:=by
 rcases Ee l with h|⟨c,r,h,hb⟩
 ·rw[h];rfl
 ·rw[h];exact hb
def Ij(n:Nat):Nat->List RT->B8->Option (List RT×B8)
 |0,_,_=>none
 |f+1,acc,l=>
  if Ep l=false then none
  else if f=0 then(if AX (Bw l) 41=true then some (acc++[⟨BL l,Bo (BL l),n-(AD l).length⟩],AT (Bw l) 41) else none)
  else if AX (Bw l) 44=false then(if AX (AT (Bw l) 44) 41=true then some (acc++[⟨BL l,Bo (BL l),n-(AD l).length⟩],AT (AT (Bw l) 44) 41) else none)
  else Ij n f (acc++[⟨BL l,Bo (BL l),n-(AD l).length⟩]) (AT (Bw l) 44)
theorem iB(s:ByteArray)(nm:B8)(np f:Nat)(acc:List RT)(l:B8):
 match Ij s.size (f+1) acc l with
 |none=>(CM s nm np (f+1) (acc.map RT.s) (acc.map RT.pl) l).ok=false
 |some (ts,r)=>CM s nm np (f+1) (acc.map RT.s) (acc.map RT.pl) l=⟨true,nm,ts.map RT.s,np,ts.map RT.pl,r⟩:=by
 induction f generalizing acc l with
 |zero=>
  cases h1:Ep l
  ·simp[Ij,CM,h1]
  ·cases h2:AX (Bw l) 41
   ·simp[Ij,CM,h1,h2]
   ·simp[Ij,CM,h1,h2,Bn]
 |succ f q=>
  rw[Ij,CM];cases h1:Ep l
  ·simp
  ·cases h2:AX (Bw l) 44
   ·cases h3:AX (AT (Bw l) 44) 41
    ·simp
    ·simp[Bn]
   ·have:=q (acc++[⟨BL l,Bo (BL l),s.size-(AD l).length⟩]) (AT (Bw l) 44);simpa[Bn]using this
theorem Sj(q:Int->Bool)(m:B8)(h:q (hd m)=true)(j:q 0=false):∃c r k,m=c::r/\Bt q 12 m=k+1:=by
 cases m with
 |nil=>rw[show hd []=0 from rfl,j]at h;simp at h
 |cons c r=>refine⟨c,r,Bt q 11 r,rfl,?_⟩;rw[Bt,Ai (show q (c.toNat:Int)=true from h)]
theorem W0(m:B8)(h:small (hd m)=true):Bo (m.take (Bt Ax 12 m))=false:=by
 obtain⟨c,r,k,rfl,j⟩:=Sj Ax m (Ed _ h).1 Pp;rw[j,List.take_succ_cons];unfold Bo;have q:small (c.toNat:Int)=true:=h;show CT (c.toNat:Int)=false;cases hg:CT (c.toNat:Int)
 ·rfl
 ·have:=(Ia _ hg).2.2.2.2;rw[q]at this;simp at this
theorem W1(m:B8)(h:CT (hd m)=true):Bo (m.take (Bt AI 12 m))=true:=by obtain⟨c,r,k,rfl,q⟩:=Sj AI m (Ia _ h).1 Od;rw[q,List.take_succ_cons];exact h
theorem Sw{A:Type}(n:Nat)(l:B8)(G:RT->List Pc->Option A)(k:∀t p r,OX p->G t (p::r)=none):
 (T n l).bind (Hx G)=if Ep l=false then none else(T n (Bw l)).bind (G ⟨BL l,Bo (BL l),n-(AD l).length⟩):=by
 rw[Wg];unfold Ep Bw BL Hc;generalize v:AD l=m;have z:Cf (hd m)=false:=by rw[<-v];exact Ds l
 by_cases h1:small (hd m)=true
 ·rw[h1,KN,Af (by simp),Ai rfl]
  have y:=Ma n m Ax (fun c h=>by simp[AI,h]) 110 (R4 n m h1) (G ⟨m.take (Bt Ax 12 m),Bo (m.take (Bt Ax 12 m)),n-m.length⟩) (fun p r=>if Ei p=true then G p.rt r else none)
   (by
     intro p q hs j r;rw[Ai (by simp[Ei,q])];congr 1;rw[Pc.rt,hs,j,W0 m h1,q]
     rfl) (fun p r h=>k _ p r h)
  rw[<-y];congr 1
  funext ps
  cases ps<;>rfl
 ·rw[DA]at h1;by_cases h2:CT (hd m)=true
  ·rw[h1,h2,Bool.or_true,Af (by simp),Af (by simp),Ai rfl]
   have y:=Ma n m AI (fun c h=>h) 118 (R5 n m h2) (G ⟨m.take (Bt AI 12 m),Bo (m.take (Bt AI 12 m)),n-m.length⟩) (fun p r=>if Ei p=true then G p.rt r else none)
    (by
      intro p q hs j r;rw[Ai (by simp[Ei,q])];congr 1;rw[Pc.rt,hs,j,W1 m h2,q]
      rfl) (fun p r h=>k _ p r h)
   rw[<-y];congr 1
   funext ps
   cases ps<;>rfl
  ·rw[DA]at h2;rw[h1,h2,MO,Ai rfl]
   cases hq:T n m with
   |none=>rfl
   |some qs=>
    rcases LX n m z h1 h2 qs hq with rfl|⟨p,r,rfl,q⟩
    ·rfl
    ·simp[Hx,q]
theorem OK{A:Type}(K:List RT->List Pc->Option A)(ts:List RT)(p:Pc)(r:List Pc)(h:OX p):Dj K (ts,p::r)=none:=by
 unfold Dj
 have:(p.mark==41)=false:=by rcases h with h|h<;>(rw[h];rfl)
 simp[this]
theorem Hq{A B:Type}(o:Option A):(o.bind fun _=>(none:Option B))=none:=by cases o<;>rfl
theorem Qz{A:Type}(n:Nat)(l:B8)(K:List RT->List Pc->Option A)(ts:List RT)(h3:ts.length<=3):(T n l).bind (fun r=>Dj K (ts,r))=if AX l 41=true then(T n (AT l 41)).bind (K ts) else none:=by
 have h:=Kg n l 41 41 rfl (by decide) (K ts) (fun _=>none);rw[Hq]at h;rw[<-h];congr 1
 funext r
 cases r with
 |nil=>rfl
 |cons p r=>unfold Dj DP;simp[h3]
theorem MR{A:Type}(K:List RT->List Pc->Option A)(acc:List RT)(q:List Pc):(BU acc q).bind (Dj K)=Hx (fun t=>DP 44 (fun r'=>(BU (acc++[t]) r').bind (Dj K)) (fun r=>Dj K (acc++[t],r))) q:=by
 cases q with
 |nil=>simp[BU,Hx]
 |cons p r=>
  cases hw:Ei p
  ·cases r<;>simp[BU,Hx,hw]
  ·cases r with
   |nil=>simp[BU,Hx,DP,hw]
   |cons q r=>
    cases hq:(q.mark==44)
    ·simp[BU,Hx,DP,hw,hq]
    ·simp[BU,Hx,DP,hw,hq]
theorem cO{A:Type}(n:Nat)(K:List RT->List Pc->Option A)(f:Nat)(acc:List RT)(l:B8)(q0:acc.length+(f+1)=3):
 (T n l).bind (fun q=>(BU acc q).bind (Dj K))=(Ij n (f+1) acc l).bind (fun x=>(T n x.2).bind (K x.1)):=by
 induction f generalizing acc l with
 |zero=>
  have hs:=Sw n l (fun t=>DP 44 (fun r'=>(BU (acc++[t]) r').bind (Dj K)) (fun r=>Dj K (acc++[t],r)))
   (by
     intro t p r h
     have:(p.mark==44)=false:=by rcases h with h|h<;>(rw[h];rfl)
     rw[DP,Af (by simp[this])]
     exact OK K _ p r h)
  rw[show(fun q=>(BU acc q).bind (Dj K))=_ from funext (MR K acc),hs,Ij];cases h1:Ep l
  ·rfl
  ·rw[Af (by simp),Af (by simp),Ai rfl];generalize (⟨BL l,Bo (BL l),n-(AD l).length⟩:RT)=t;have q1:(acc++[t]).length=3:=by simp;omega
   rw[Kg n (Bw l) 44 44 rfl (by decide)];cases j:AX (Bw l) 44
   ·rw[Af (by simp),Qz n (Bw l) K (acc++[t]) (by omega)]
    split<;>rfl
   ·rw[Ai rfl];have z:AX (Bw l) 41=false:=by unfold AX at j⊢;rw[Co]at j;rw[j];rfl
    rw[z,Af (by simp)]
    have:(fun r'=>(BU (acc++[t]) r').bind (Dj K))=fun _=>none:=by
     funext r'
     cases hq:BU (acc++[t]) r' with
     |none=>rfl
     |some x=>
      obtain⟨ts,r⟩:=x;have hm:=Sv _ _ _ _ hq;rw[Option.bind_some];unfold Dj
      cases r with
      |nil=>rfl
      |cons c r=>simp only[];rw[Af];simp;intro _;omega
    rw[this,Hq];rfl
 |succ f y=>
  have hs:=Sw n l (fun t=>DP 44 (fun r'=>(BU (acc++[t]) r').bind (Dj K)) (fun r=>Dj K (acc++[t],r)))
   (by
     intro t p r h
     have:(p.mark==44)=false:=by rcases h with h|h<;>(rw[h];rfl)
     rw[DP,Af (by simp[this])]
     exact OK K _ p r h)
  rw[show(fun q=>(BU acc q).bind (Dj K))=_ from funext (MR K acc),hs,Ij];cases h1:Ep l
  ·rfl
  ·rw[Af (by simp),Af (by simp),Af (by simp)];generalize (⟨BL l,Bo (BL l),n-(AD l).length⟩:RT)=t;rw[Kg n (Bw l) 44 44 rfl (by decide)];cases j:AX (Bw l) 44
   ·rw[Af (by simp),Qz n (Bw l) K (acc++[t]) (by simp;omega),Ai rfl,DC _ _ j,E7,FU]
    split<;>rfl
   ·rw[Ai rfl,Af (by simp)];exact y (acc++[t]) (AT (Bw l) 44) (by simp;omega)
theorem YN(n:Nat)(l:B8)(m:UInt8)(q:EY (m.toNat:Int)=true)(h:AX l (m.toNat:Int)=false)(p:Pc)(r:List Pc)(hq:T n l=some (p::r)):(p.mark==m)=false:=by
 have e:=Kg n l m _ rfl q (fun _=>some true) (fun _=>some false);rw[h,Af (by simp),hq]at e;simp only[Option.bind_some,DP]at e;cases hp:(p.mark==m)
 ·rfl
 ·rw[hp]at e;simp at e
def Kb{A:Type}(K:RA->List Pc->Option A)(neg:Bool)(bang:Nat)(p:Pc):List Pc->Option A:=
 DP 40 (fun r'=>(BU [] r').bind (Dj fun ts q=>K ⟨p.s,ts,p.pl,bang,neg⟩ q)) (fun r=>K ⟨p.s,[],p.pl,bang,neg⟩ r)
def Iz{A:Type}(G:Pc->List Pc->Option A):List Pc->Option A
 |[]=>none
 |p::r=>if(p.mark==110)=true then G p r else none
theorem VS{A B:Type}(K:List RT->List Pc->Option A)(F:A->Option B)(x:List RT×List Pc):(Dj K x).bind F=Dj (fun ts r=>(K ts r).bind F) x:=by
 unfold Dj
 split
 ·rfl
 ·split<;>rfl
theorem VH{A:Type}(K:RA->List Pc->Option A)(neg:Bool)(bang:Nat)(q:List Pc):(C7 neg bang q).bind (fun x=>K x.1 x.2)=Iz (Kb K neg bang) q:=by
 cases q with
 |nil=>rfl
 |cons p r=>
  cases hp:(p.mark==110)
  ·cases r<;>simp[C7,Iz,hp]
  ·cases r with
   |nil=>simp[C7,Iz,Kb,DP,hp]
   |cons q r=>
    cases hq:(q.mark==40)
    ·simp[C7,Iz,Kb,DP,hp,hq]
    ·simp only[C7,Iz,Kb,DP,hp,hq,Bk];rw[Gl];congr 1
     funext x
     exact VS _ _ x
def Fh(n:Nat)(neg:Bool)(bang:Nat)(l:B8):Option (RA×B8):=
 if small (hd (AD l))=false then none
 else if AX ((AD l).drop (Bt Ax 12 (AD l))) 40=false then some (⟨(AD l).take (Bt Ax 12 (AD l)),[],n-(AD l).length,bang,neg⟩,AT ((AD l).drop (Bt Ax 12 (AD l))) 40)
 else(Ij n 3 [] (AT ((AD l).drop (Bt Ax 12 (AD l))) 40)).map fun x=>(⟨(AD l).take (Bt Ax 12 (AD l)),x.1,n-(AD l).length,bang,neg⟩,x.2)
theorem OQ{A:Type}(n:Nat)(l:B8)(neg:Bool)(bang:Nat)(K:RA->List Pc->Option A)(k:∀a p r,OX p->K a (p::r)=none):
 (T n l).bind (fun q=>(C7 neg bang q).bind (fun x=>K x.1 x.2))=(Fh n neg bang l).bind (fun x=>(T n x.2).bind (K x.1)):=by
 rw[show(fun q=>(C7 neg bang q).bind (fun x=>K x.1 x.2))=Iz (Kb K neg bang) from funext (VH K neg bang),Wg];unfold Fh;have y:=Ds l;generalize AD l=m at*;by_cases h1:small (hd m)=true
 ·rw[h1,Af (by simp)];generalize v:m.take (Bt Ax 12 m)=w
  have hb:=Ma n m Ax (fun c h=>by simp[AI,h]) 110 (R4 n m h1) (Kb K neg bang ⟨110,w,n-m.length⟩) (fun p r=>if(p.mark==110)=true then Kb K neg bang p r else none)
   (by
     intro p j hs z r;obtain⟨pm,ps,pp⟩:=p;simp only[]at j hs z;subst j z;rw[hs,v]
     rfl)
   (by
     intro p r h
     have:(p.mark==40)=false:=by rcases h with h|h<;>(rw[h];rfl)
     rw[Kb,DP,Af (by simp[this])]
     exact k _ p r h)
  have e:Iz (Kb K neg bang)=(fun ps=>match ps with|p::r=>(fun p r=>if(p.mark==110)=true then Kb K neg bang p r else none) p r|[]=>none):=by
   funext ps
   cases ps<;>rfl
  refine(Bl (Option.bind (T n m)) e).trans (hb.trans ?_);rw[Kb,Kg n _ 40 40 rfl (by decide)];cases h40:AX (m.drop (Bt Ax 12 m)) 40
  ·rw[Af (by simp),Ai rfl,DC _ _ h40,Wg];rfl
  ·rw[Ai rfl,Af (by simp),cO n _ 2 [] _ rfl];cases Ij n (2+1) [] (AT (m.drop (Bt Ax 12 m)) 40)<;>rfl
 ·rw[DA]at h1;rw[h1,Ai rfl]
  cases hq:T n m with
  |none=>rfl
  |some qs=>
   by_cases h2:CT (hd m)=true
   ·rw[R5 n m h2]at hq
    split at hq
    ·simp at hq
    ·rw[CC]at hq;obtain⟨r,_,rfl⟩:=hq;rfl
   ·rw[DA]at h2;rcases LX n m y h1 h2 qs hq with rfl|⟨p,r,rfl,j⟩
    ·rfl
    ·have:(p.mark==110)=false:=by unfold Ei at j;rw[Bb]at j;exact j.1
     simp[Iz,this]
def Ni(n:Nat)(l:B8):Option (RA×B8):=if AX l 33=true then Fh n true (n-(AD l).length) (AT l 33) else Fh n false 0 l
theorem Rp{A:Type}(n:Nat)(l:B8)(K:RA->List Pc->Option A)(z:∀a p r,OX p->K a (p::r)=none):
 (T n l).bind (fun q=>(BF q).bind (fun x=>K x.1 x.2))=(Ni n l).bind (fun x=>(T n x.2).bind (K x.1)):=by
 unfold Ni;cases h33:AX l 33
 ·rw[Af (by simp),<-OQ n l false 0 K z]
  cases hq:T n l with
  |none=>rfl
  |some qs=>
   cases qs with
   |nil=>rfl
   |cons p r=>have k:=YN n l 33 (by decide) h33 p r hq;rw[Option.bind_some,Option.bind_some,BF,Af (by rw[k];simp)]
 ·rw[Ai rfl,<-OQ n (AT l 33) true (n-(AD l).length) K z]
  have j:∃r,AD l=33::r:=by
   unfold AX at h33;rcases Ee l with h|⟨c,r,h,_⟩
   ·rw[h]at h33;simp[hd]at h33
   ·rw[h]at h33;refine⟨r,?_⟩;rw[h,fE c 33 (by decide) h33];rfl
  obtain⟨r,y⟩:=j;have ht:AT l 33=r:=by unfold AT;rw[h33,Ai rfl,y];rfl
  rw[ht,Wg n l,y,dC n 33 r (by decide)]
  cases T n r with
  |none=>rfl
  |some q=>simp[BF]
theorem UH(acc:List RT)(ps:List Pc)(ts:List RT)(r:List Pc)(h:BU acc ps=some (ts,r)):r.length<=ps.length:=by
 induction hn:ps.length using Nat.strongRecOn generalizing acc ps with
 |_ n j=>
  cases ps with
  |nil=>simp[BU]at h
  |cons p ps=>
   unfold BU at h
   split at h
   ·cases ps with
    |nil=>simp at h;rw[h.2];simp
    |cons q r'=>
     simp only[]at h;simp at hn
     split at h
     ·have:=j r'.length (by omega) _ _ h rfl;omega
     ·simp at h;rw[<-h.2];simp;omega
   ·simp at h
theorem Qy(neg:Bool)(bang:Nat)(ps:List Pc)(a:RA)(r:List Pc)(h:C7 neg bang ps=some (a,r)):r.length<ps.length:=by
 cases ps with
 |nil=>simp[C7]at h
 |cons p ps=>
  cases hp:(p.mark==110)
  ·cases ps<;>simp[C7,hp]at h
  ·cases ps with
   |nil=>simp only[C7,hp,Bk,Al,CW]at h;rw[<-h.2];simp
   |cons q r'=>
    cases hq:(q.mark==40)
    ·simp only[C7,hp,hq,Bk,An,AM,Al,CW]at h;rw[<-h.2];simp
    ·simp only[C7,hp,hq,Bk]at h;rw[BK]at h;obtain⟨⟨ts,r1⟩,h1,h2⟩:=h;have j:=UH _ _ _ _ h1;unfold Dj at h2
     cases r1 with
     |nil=>simp at h2
     |cons c r2=>
      simp only[]at h2
      split at h2
      ·simp at h2;rw[<-h2.2];simp at j⊢;omega
      ·simp at h2
theorem Ht(ps:List Pc)(a:RA)(r:List Pc)(h:BF ps=some (a,r)):r.length<ps.length:=by
 cases ps with
 |nil=>simp[BF]at h
 |cons p ps=>
  rw[BF]at h
  split at h
  ·have:=Qy _ _ _ _ _ h;simp;omega
  ·exact Qy _ _ _ _ _ h
theorem VR(f:Nat):∀(g:Nat) (acc:List RA) (ps:List Pc),ps.length<=f->ps.length<=g->Kd f acc ps=Kd g acc ps:=by
 induction f with
 |zero=>
  intro g acc ps h1 h2
  cases ps with
  |nil=>cases g<;>rfl
  |cons p r=>simp at h1
 |succ f q=>
  intro g acc ps h1 h2
  cases ps with
  |nil=>cases g<;>rfl
  |cons p r=>
   cases g with
   |zero=>simp at h2
   |succ g=>
    unfold Kd
    split
    ·cases hq:BF r with
     |none=>rfl
     |some x=>obtain⟨b,r'⟩:=x;have:=Ht _ _ _ hq;simp at h1 h2;exact q g _ _ (by simp only[];omega) (by simp only[];omega)
    ·rfl
def BP(acc:List RA)(ps:List Pc):Option (List RA×List Pc):=Kd ps.length acc ps
theorem dP(acc:List RA):BP acc []=some (acc,[]):=rfl
theorem KI(acc:List RA)(p:Pc)(r:List Pc):BP acc (p::r)=if EW acc p=true then(BF r).bind fun x=>BP (acc++[x.1]) x.2 else some (acc,p::r):=by
 unfold BP;rw[List.length_cons,Kd]
 split
 ·cases hq:BF r with
  |none=>rfl
  |some x=>obtain⟨b,r'⟩:=x;have:=Ht _ _ _ hq;exact VR _ _ _ _ (by simp only[];omega) (Ab _)
 ·rfl
def G9{A:Type}(C:List RA->List Pc->Option A)(x:List RA×List Pc):Option A:=
 match x.2 with
 |[]=>none
 |p::r=>if(p.mark==46&&decide (x.1.length<=4))=true then C x.1 r else none
theorem RH{A:Type}(n:Nat)(l:B8)(C:List RA->List Pc->Option A)(acc:List RA)(q:acc.length<=4):(T n l).bind (fun r=>G9 C (acc,r))=if AX l 46=true then(T n (AT l 46)).bind (C acc) else none:=by
 have h:=Kg n l 46 46 rfl (by decide) (C acc) (fun _=>none);rw[Hq]at h;rw[<-h];congr 1
 funext r
 cases r with
 |nil=>rfl
 |cons p r=>unfold G9 DP;simp[q]
theorem Yz(acc:List RA)(ps:List Pc)(b:List RA)(r:List Pc)(h:BP acc ps=some (b,r)):acc.length<=b.length:=by
 induction hn:ps.length using Nat.strongRecOn generalizing acc ps with
 |_ n q=>
  cases ps with
  |nil=>rw[dP]at h;simp at h;rw[h.1];exact Ab _
  |cons p ps=>
   rw[KI]at h
   split at h
   ·rw[BK]at h;obtain⟨⟨a,r1⟩,h1,h2⟩:=h;have hl:=Ht _ _ _ h1;simp at hn;have:=q r1.length (by omega) _ _ h2 rfl;simp at this;omega
   ·simp at h;rw[h.1];exact Ab _
theorem bK{A:Type}(C:List RA->List Pc->Option A)(acc:List RA)(ps:List Pc)(h:4<acc.length):(BP acc ps).bind (G9 C)=none:=by
 cases hq:BP acc ps with
 |none=>rfl
 |some x=>
  obtain⟨b,r⟩:=x;have:=Yz _ _ _ _ hq;rw[Option.bind_some];unfold G9
  cases r with
  |nil=>rfl
  |cons p r=>simp only[];rw[Af];simp;intro _;omega
theorem Uy{A:Type}(C:List RA->List Pc->Option A)(acc:List RA)(h:acc≠[])(ps:List Pc):(BP acc ps).bind (G9 C)=DP 44 (fun r=>(BF r).bind fun x=>(BP (acc++[x.1]) x.2).bind (G9 C)) (fun r=>G9 C (acc,r)) ps:=by
 cases ps with
 |nil=>rfl
 |cons p r=>
  have q:EW acc p=(p.mark==44):=by
   unfold EW
   cases acc with
   |nil=>exact absurd rfl h
   |cons a acc=>simp
  rw[KI,q,DP]
  split
  ·rw[Gl]
  ·rfl
theorem YV{A:Type}(C:List RA->List Pc->Option A)(ps:List Pc):(BP [] ps).bind (G9 C)=DP 58 (fun r=>(BF r).bind fun x=>(BP [x.1] x.2).bind (G9 C)) (fun r=>G9 C ([],r)) ps:=by
 cases ps with
 |nil=>rfl
 |cons p r=>
  have q:EW [] p=(p.mark==58):=by unfold EW;simp
  rw[KI,q,DP]
  split
  ·rw[Gl];rfl
  ·rfl
theorem R9{A:Type}(C:List RA->List Pc->Option A)(acc:List RA)(p:Pc)(r:List Pc)(h:OX p):(BP acc (p::r)).bind (G9 C)=none:=by
 have j:EW acc p=false:=by unfold EW;rcases h with h|h<;>(rw[h];rfl)
 have q:(p.mark==46)=false:=by rcases h with h|h<;>(rw[h];rfl)
 rw[KI,j,Af (by simp),Option.bind_some];unfold G9;simp[q]
def JI(n:Nat):Nat->List RA->B8->Option (List RA×B8)
 |0,_,_=>none
 |f+1,acc,l=>(Ni n l).bind fun x=>
  if f=0 then some (acc++[x.1],x.2)
  else if AX x.2 44=false then some (acc++[x.1],AT x.2 44)
  else JI n f (acc++[x.1]) (AT x.2 44)
def gP{A:Type}(n:Nat)(C:List RA->List Pc->Option A)(y:List RA×B8):Option A:=if AX y.2 46=true then(T n (AT y.2 46)).bind (C y.1) else none
theorem ZT{A:Type}(n:Nat)(C:List RA->List Pc->Option A)(f:Nat)(acc:List RA)(l:B8)(q0:acc.length+(f+1)=4):
 (T n l).bind (fun q=>(BF q).bind fun x=>(BP (acc++[x.1]) x.2).bind (G9 C))=(JI n (f+1) acc l).bind (gP n C):=by
 induction f generalizing acc l with
 |zero=>
  rw[Rp n l (fun a ps=>(BP (acc++[a]) ps).bind (G9 C)) (fun a p r h=>R9 C _ p r h),JI]
  cases Ni n l with
  |none=>rfl
  |some x=>
   obtain⟨a,r⟩:=x;simp only[Option.bind_some,Bk];rw[show(fun ps=>(BP (acc++[a]) ps).bind (G9 C))=_ from funext (Uy C (acc++[a]) (by simp)),Kg n r 44 44 rfl (by decide)];have q1:(acc++[a]).length=4:=by simp;omega
   unfold gP;cases h44:AX r 44
   ·rw[Af (by simp),RH n r C (acc++[a]) (by omega)]
   ·rw[Ai rfl];have j:AX r 46=false:=by unfold AX at h44⊢;rw[Co]at h44;rw[h44];rfl
    simp only[j]
    have:(fun r=>(BF r).bind fun x=>(BP (acc++[a]++[x.1]) x.2).bind (G9 C))=fun _=>none:=by
     funext r
     cases BF r with
     |none=>rfl
     |some x=>rw[Option.bind_some];exact bK C _ _ (by simp;omega)
    rw[this,Hq];rfl
 |succ f z=>
  rw[Rp n l (fun a ps=>(BP (acc++[a]) ps).bind (G9 C)) (fun a p r h=>R9 C _ p r h),JI]
  cases Ni n l with
  |none=>rfl
  |some x=>
   obtain⟨a,r⟩:=x;rw[Option.bind_some,Option.bind_some,Af (by omega)];simp only[];rw[show(fun ps=>(BP (acc++[a]) ps).bind (G9 C))=_ from funext (Uy C (acc++[a]) (by simp)),Kg n r 44 44 rfl (by decide)];cases h44:AX r 44
   ·rw[Af (by simp),Ai rfl,RH n r C (acc++[a]) (by simp;omega),Option.bind_some];unfold gP;simp only[];rw[DC _ _ h44,E7,FU]
   ·rw[Ai rfl,Af (by simp)];exact z (acc++[a]) (AT r 44) (by simp;omega)
def RO(ps:List Pc):Option (RC×List Pc):=
 (BF ps).bind fun x=>if x.1.neg=true then none else(BP [] x.2).bind (G9 fun b r=>some (⟨x.1,b⟩,r))
theorem Yq(ps:List Pc):CF ps=RO ps:=by unfold CF RO BP;congr 1
theorem cD{A B:Type}(C:List RA->List Pc->Option A)(F:A->Option B)(x:List RA×List Pc):(G9 C x).bind F=G9 (fun b r=>(C b r).bind F) x:=by
 unfold G9
 split
 ·rfl
 ·split<;>rfl
def GK(n:Nat)(l:B8):Option (RC×B8):=
 (Fh n false 0 l).bind fun x=>
   if AX x.2 58=false then(if AX (AT x.2 58) 46=true then some (⟨x.1,[]⟩,AT (AT x.2 58) 46) else none)
   else if(hd (AT x.2 58)==45)=false then none
   else(JI n 4 [] (AT x.2 58).tail).bind fun y=>if AX y.2 46=true then some (⟨x.1,y.1⟩,AT y.2 46) else none
theorem ME(n:Nat)(neg:Bool)(bang:Nat)(l:B8)(a:RA)(r:B8)(h:Fh n neg bang l=some (a,r)):a.neg=neg:=by
 unfold Fh at h
 split at h
 ·simp at h
 ·split at h
  ·simp at h;rw[<-h.1]
  ·rw[CC]at h;obtain⟨x,_,hx⟩:=h;simp at hx;rw[<-hx.1]
theorem VL{A:Type}(n:Nat)(l:B8)(K:RC->List Pc->Option A):
 (T n l).bind (fun q=>(CF q).bind (fun x=>K x.1 x.2))=(GK n l).bind (fun x=>(T n x.2).bind (K x.1)):=by
 have e:(fun q=>(CF q).bind (fun x=>K x.1 x.2))=(fun q=>(BF q).bind fun x=>(fun(a:RA) (ps:List Pc)=>if a.neg=true then none else(BP [] ps).bind (G9 fun b r=>K ⟨a,b⟩ r)) x.1 x.2):=by
  funext q
  rw[Yq,RO,Gl];congr 1
  funext x
  simp only[]
  split
  ·rfl
  ·rw[Gl];congr 1
   funext y
   rw[cD];rfl
 refine(Bl (Option.bind (T n l)) e).trans ((Rp n l (fun(a:RA) (ps:List Pc)=>if a.neg=true then none else(BP [] ps).bind (G9 fun b r=>K ⟨a,b⟩ r)) (by
  intro a p r h
  split
  ·rfl
  ·exact R9 _ _ p r h)).trans ?_)
 unfold Ni GK;cases h33:AX l 33
 ·rw[Af (by simp)]
  cases ha:Fh n false 0 l with
  |none=>rfl
  |some x=>
   obtain⟨a,r⟩:=x;have j:=ME n false 0 l a r ha;rw[Option.bind_some,Option.bind_some];simp only[j,An,AM];rw[show(fun ps=>(BP [] ps).bind (G9 fun b r=>K ⟨a,b⟩ r))=_ from funext (YV _),PK];cases h58:AX r 58
   ·rw[Af (by simp),Ai rfl,RH n r _ [] (by simp),DC _ _ h58,E7,FU]
    split<;>rfl
   ·cases h45:(hd (AT r 58)==45)
    ·rfl
    ·simp only[Bk,AV,AM];have z:=ZT n (fun b r=>K ⟨a,b⟩ r) 3 [] (AT r 58).tail rfl;simp only[List.nil_append]at z;rw[z,Gl];congr 1
     funext y
     unfold gP
     split<;>rfl
 ·rw[Ai rfl];have k:Fh n false 0 l=none:=by unfold Fh;unfold AX at h33;rw[Co]at h33;rw[h33,Ai (by decide)]
  rw[k]
  cases ha:Fh n true (n-(AD l).length) (AT l 33) with
  |none=>rfl
  |some x=>obtain⟨a,r⟩:=x;have j:=ME n true _ _ a r ha;rw[Option.bind_some];simp only[j,Bk,Hq];rfl
theorem Kc(ps:List Pc)(c:RC)(r:List Pc)(h:CF ps=some (c,r)):r.length<ps.length:=by
 unfold CF at h;rw[BK]at h;obtain⟨⟨a,r1⟩,h1,h2⟩:=h;have l1:=Ht _ _ _ h1;simp only[]at h2
 split at h2
 ·simp at h2
 ·rw[BK]at h2;obtain⟨⟨b,j⟩,h3,q⟩:=h2
  have u:j.length<=r1.length:=by
   have z:∀(f:Nat) (acc:List RA) (ps:List Pc),Kd f acc ps=some (b,j)->j.length<=ps.length:=by
    intro f
    induction f with
    |zero=>intro acc ps h;simp[Kd]at h;rw[h.2];exact Ab _
    |succ f v=>
     intro acc ps h
     cases ps with
     |nil=>simp[Kd]at h;rw[h.2];exact Ab _
     |cons p ps=>
      rw[Kd]at h
      split at h
      ·rw[BK]at h;obtain⟨⟨a',g⟩,y,k⟩:=h;have l3:=Ht _ _ _ y;have:=v _ _ k;simp only[]at this;simp;omega
      ·simp at h;rw[<-h.2];exact Ab _
   exact z _ _ _ h3
  cases j with
  |nil=>simp at q
  |cons p g=>
   simp only[]at q
   split at q
   ·simp at q;rw[<-q.2];simp at u;omega
   ·simp at q
theorem U6(f:Nat):∀(g:Nat) (acc:List RC) (ps:List Pc),ps.length<=f->ps.length<=g->P6 f acc ps=P6 g acc ps:=by
 induction f with
 |zero=>
  intro g acc ps h1 h2
  cases ps with
  |nil=>cases g<;>rfl
  |cons p r=>simp at h1
 |succ f q=>
  intro g acc ps h1 h2
  cases ps with
  |nil=>cases g<;>rfl
  |cons p r=>
   cases g with
   |zero=>simp at h2
   |succ g=>
    unfold P6
    cases hq:CF (p::r) with
    |none=>rfl
    |some x=>
     obtain⟨b,r'⟩:=x;have:=Kc _ _ _ hq;simp at h1 h2 this;rw[Option.bind_some,Option.bind_some];simp only[]
     split
     ·rfl
     ·exact q g _ _ (by omega) (by omega)
def PP(acc:List RC)(ps:List Pc):Option (List RC):=P6 ps.length acc ps
theorem R6(acc:List RC)(p:Pc)(r:List Pc):PP acc (p::r)=(CF (p::r)).bind fun x=>if acc.length=40 then none else PP (acc++[x.1]) x.2:=by
 unfold PP;rw[List.length_cons,P6]
 cases hq:CF (p::r) with
 |none=>rfl
 |some x=>
  obtain⟨b,r'⟩:=x;have:=Kc _ _ _ hq;simp at this;rw[Option.bind_some,Option.bind_some];simp only[]
  split
  ·rfl
  ·exact U6 _ _ _ _ (by omega) (Ab _)
theorem We(n:Nat)(l:B8)(c:UInt8)(r:B8)(h:AD l=c::r)(hb:Cf (c.toNat:Int)=false)(qs:List Pc)(hq:T n l=some qs):∃p q,qs=p::q:=by
 rw[<-OZ,h,IM]at hq
 cases hp:Lm (n-(c::r).length) c r with
 |none=>rw[hp]at hq;simp at hq
 |some x=>
  obtain⟨ps,k⟩:=x;rw[hp]at hq;simp only[]at hq;rw[CC]at hq;obtain⟨q,_,rfl⟩:=hq
  have:ps≠[]:=by
   unfold Lm at hp;rw[Af (by simp[hb])]at hp
   repeat' split at hp
   all_goals simp at hp
   all_goals (rw[<-hp.1];simp)
  cases ps with
  |nil=>exact absurd rfl this
  |cons p ps=>exact⟨p,ps++q,rfl⟩
def IY(n:Nat):Nat->List RC->B8->Option (List RC)
 |0,acc,l=>if(AD l).isEmpty=true then some acc else none
 |f+1,acc,l=>if(AD l).isEmpty=true then some acc else(GK n (AD l)).bind fun x=>IY n f (acc++[x.1]) x.2
theorem NY(n f:Nat)(acc:List RC)(l:B8)(h:acc.length+f=40):(T n l).bind (PP acc)=IY n f acc l:=by
 induction f generalizing acc l with
 |zero=>
  rw[IY];rcases Ee l with hs|⟨c,r,hs,hb⟩
  ·rw[hs,<-OZ,hs,Uo];rfl
  ·rw[hs,Af (by simp)]
   cases hq:T n l with
   |none=>rfl
   |some qs=>obtain⟨p,q,rfl⟩:=We n l c r hs hb qs hq;rw[Option.bind_some,R6];simp only[show acc.length=40 by omega,Bk];exact Hq _
 |succ f j=>
  rw[IY];rcases Ee l with hs|⟨c,r,hs,hb⟩
  ·rw[hs,<-OZ,hs,Uo];rfl
  ·rw[Af (by rw[hs];simp)]
   have h1:(T n l).bind (PP acc)=(T n l).bind (fun q=>(CF q).bind (fun x=>(fun(c:RC) (ps:List Pc)=>PP (acc++[c]) ps) x.1 x.2)):=by
    cases hq:T n l with
    |none=>rfl
    |some qs=>obtain⟨p,q,rfl⟩:=We n l c r hs hb qs hq;rw[Option.bind_some,Option.bind_some,R6];simp only[show ¬acc.length=40 by omega,AM]
   rw[h1,Wg];refine(VL n (AD l) (fun c ps=>PP (acc++[c]) ps)).trans ?_;congr 1
   funext x
   exact j _ _ (by simp;omega)
def RA.lit(a:RA):BQ:=⟨a.name,a.ts.map RT.s,a.neg⟩
def RA.spot(a:RA):Dg:=⟨a.af,a.pl,a.ts.map RT.pl⟩
def RC.d(c:RC):Bd:=⟨c.head.name,c.head.ts.map RT.s,c.body.map RA.lit,⟨0,c.head.pl,c.head.ts.map RT.pl⟩::c.body.map RA.spot⟩
theorem NF(s:ByteArray)(neg:Bool)(bang:Nat)(l:B8):
 match Fh s.size neg bang l with
 |none=>(Bf s l).ok=false
 |some (a,r)=>Bf s l=⟨true,a.name,a.ts.map RT.s,a.pl,a.ts.map RT.pl,r⟩/\a.af=bang/\a.neg=neg:=by
 unfold Fh Bf;simp only[];cases h1:small (hd (AD l))
 ·simp
 ·cases h2:AX ((AD l).drop (Bt Ax 12 (AD l))) 40
  ·simp[Bn]
  ·simp only[AV,AM];have h:=iB s ((AD l).take (Bt Ax 12 (AD l))) (Bn s (AD l)) 2 [] (AT ((AD l).drop (Bt Ax 12 (AD l))) 40)
   cases hq:Ij s.size (2+1) [] (AT ((AD l).drop (Bt Ax 12 (AD l))) 40) with
   |none=>rw[hq]at h;exact h
   |some x=>obtain⟨ts,r⟩:=x;rw[hq]at h;exact⟨h,rfl,rfl⟩
theorem ZX(s:ByteArray)(l:B8):
 match Ni s.size l with
 |none=>(Cd s l).ok=false
 |some (a,r)=>(Cd s l).ok=true/\(Cd s l).rest=r/\JS s l=a.lit/\Hd s l=a.spot:=by
 unfold Ni JS Hd Cd Jr Ku;cases h33:AX l 33
 ·rw[Af (by simp),DC _ _ h33];have h:=NF s false 0 (AD l);have e:Fh s.size false 0 (AD l)=Fh s.size false 0 l:=by unfold Fh;rw[Gs]
  rw[e]at h
  cases hq:Fh s.size false 0 l with
  |none=>rw[hq]at h;exact h
  |some x=>obtain⟨a,r⟩:=x;rw[hq]at h;obtain⟨h1,h2,h3⟩:=h;rw[h1];exact⟨rfl,rfl,by rw[RA.lit,h3],by rw[RA.spot,h2];rfl⟩
 ·rw[Ai rfl];have h:=NF s true (s.size-(AD l).length) (AT l 33)
  cases hq:Fh s.size true (s.size-(AD l).length) (AT l 33) with
  |none=>rw[hq]at h;exact h
  |some x=>
   obtain⟨a,r⟩:=x;rw[hq]at h;obtain⟨h1,h2,h3⟩:=h;rw[h1];refine⟨rfl,rfl,by rw[RA.lit,h3],?_⟩;rw[RA.spot,h2,Ai rfl];congr 1;have ht:AT l 33=(AD l).tail:=by unfold AT;rw[h33,Ai rfl]
   have q0:1<=(AD l).length:=by
    unfold AX at h33
    cases hs:AD l with
    |nil=>rw[hs]at h33;simp[hd]at h33
    |cons c r=>simp
   rw[ht,Bn,List.length_tail];omega
theorem fL(s:ByteArray)(f:Nat)(acc:List RA)(sp:List Dg)(l:B8):
 match JI s.size (f+1) acc l with
 |none=>(ER s (f+1) (acc.map RA.lit) (sp++acc.map RA.spot) l).ok=false
 |some (b,r)=>ER s (f+1) (acc.map RA.lit) (sp++acc.map RA.spot) l=⟨true,b.map RA.lit,sp++b.map RA.spot,r⟩:=by
 induction f generalizing acc l with
 |zero=>
  rw[JI,ER];have h:=ZX s l
  cases hq:Ni s.size l with
  |none=>rw[hq]at h;simp[h]
  |some x=>obtain⟨a,r⟩:=x;rw[hq]at h;obtain⟨h1,h2,h3,q⟩:=h;simp[h1,h2,h3,q]
 |succ f j=>
  rw[JI,ER];have h:=ZX s l
  cases hq:Ni s.size l with
  |none=>rw[hq]at h;simp[h]
  |some x=>
   obtain⟨a,r⟩:=x;rw[hq]at h;obtain⟨h1,h2,h3,q⟩:=h;cases h44:AX r 44
   ·simp[h1,h2,h3,q,h44]
   ·have:=j (acc++[a]) (AT r 44);simpa[h1,h2,h3,q,h44]using this
theorem Yp(s:ByteArray)(l:B8):
 match GK s.size l with
 |none=>(BH s l).ok=false
 |some (c,r)=>(BH s l).ok=true/\(BH s l).d=c.d/\(BH s l).rest=r:=by
 unfold GK BH;have h:=NF s false 0 l
 cases hq:Fh s.size false 0 l with
 |none=>rw[hq]at h;simp[h]
 |some x=>
  obtain⟨a,r⟩:=x;rw[hq]at h;obtain⟨h1,h2,h3⟩:=h;simp only[Option.bind_some,h1,Ce,AV,AM];cases h58:AX r 58
  ·cases h46:AX (AT r 58) 46
   ·simp
   ·simp[lW.d,RC.d]
  ·simp only[AV,AM];cases h45:(hd (AT r 58)==45)
   ·simp[Dc,h45]
   ·have q:=fL s 3 [] [⟨0,a.pl,a.ts.map RT.pl⟩] (AT r 58).tail;simp only[AV,AM,Dc,h45]
    cases hb:JI s.size 4 [] (AT r 58).tail with
    |none=>rw[hb]at q;simp only[KM,BC]at q;simp[q]
    |some y=>
     obtain⟨b,j⟩:=y;rw[hb]at q;simp only[KM,BC]at q;rw[q];simp only[Option.bind_some];cases h46:AX j 46
     ·simp
     ·simp[lW.d,RC.d]
theorem eN(s:ByteArray)(f:Nat)(acc:List RC)(l:B8):
 match IY s.size f acc l with
 |none=>(EP s f (acc.map RC.d) l).ok=false
 |some cs=>(EP s f (acc.map RC.d) l).ok=true/\(EP s f (acc.map RC.d) l).cls=cs.map RC.d:=by
 induction f generalizing acc l with
 |zero=>rw[IY,EP];cases he:(AD l).isEmpty<;>simp
 |succ f q=>
  rw[IY,EP];cases he:(AD l).isEmpty
  ·simp only[An,AM];have h:=Yp s (AD l)
   cases hq:GK s.size (AD l) with
   |none=>rw[hq]at h;simp[h]
   |some x=>obtain⟨c,r⟩:=x;rw[hq]at h;obtain⟨h1,h2,h3⟩:=h;simp only[Option.bind_some,h1,h2,h3,AV,AM];have:=q (acc++[c]) r;simpa using this
  ·simp
theorem Gc(s:ByteArray):match (T s.size s.data.toList).bind (PP []) with
 |none=>(Bs s).ok=false
 |some cs=>(Bs s).ok=true/\(Bs s).cls=cs.map RC.d:=by
 rw[NY s.size 40 [] _ rfl];exact eN s 40 [] s.data.toList
structure St where
 tag:Nat
 k:Nat
 x:Option Nat
 t:Nat
 v:Bool
 w:Nat
abbrev St.top(k:Nat):St:=⟨0,k,none,0,false,0⟩
abbrev St.name(k:Nat)(x:Option Nat)(w:Nat):St:=⟨1,k,x,0,false,w⟩
abbrev St.named(k:Nat)(x:Option Nat):St:=⟨2,k,x,0,false,0⟩
abbrev St.atom(k:Nat)(x:Option Nat):St:=⟨3,k,x,0,false,0⟩
abbrev St.opened(k:Nat)(x:Option Nat)(t:Nat):St:=⟨4,k,x,t,false,0⟩
abbrev St.term(k:Nat)(x:Option Nat)(t:Nat)(v:Bool)(w:Nat):St:=⟨5,k,x,t,v,w⟩
abbrev St.bt(k:Nat)(x:Option Nat)(t:Nat):St:=⟨6,k,x,t,false,0⟩
abbrev St.colon(k:Nat):St:=⟨7,k,none,0,false,0⟩
abbrev St.lit(k j:Nat):St:=⟨8,k,none,j,false,0⟩
abbrev St.af(k j:Nat):St:=⟨9,k,none,j,false,0⟩
def TR(k:Nat)(x:Option Nat)(c:Int):Option St:=
 if c==46 then some (.top (k+1))
 else match x with
  |none=>if c==58 then some (.colon k) else none
  |some j=>if c==44&&decide (j<3) then some (.lit k (j+1)) else none
def OE(k:Nat)(x:Option Nat)(c:Int):Option St:=
 if Cf c then some (.named k x) else if c==40 then some (.opened k x 0) else TR k x c
def Jx(k:Nat)(x:Option Nat)(t:Nat)(c:Int):Option St:=
 if Cf c then some (.bt k x t) else if c==41 then some (.atom k x) else if c==44&&decide (t<2) then some (.opened k x (t+1)) else none
def M1(v:Bool)(c:Int):Bool:=if v then AI c else Ax c
def dl(st:St)(c:Int):Option St:=
 match st.tag with
 |0=>if Cf c then some (.top st.k) else if small c&&decide (st.k<40) then some (.name st.k none 1) else none
 |1=>if Ax c&&decide (st.w<12) then some (.name st.k st.x (st.w+1)) else OE st.k st.x c
 |2=>OE st.k st.x c
 |3=>if Cf c then some (.atom st.k st.x) else TR st.k st.x c
 |4=>if Cf c then some (.opened st.k st.x st.t) else if small c then some (.term st.k st.x st.t false 1) else if CT c then some (.term st.k st.x st.t true 1) else none
 |5=>if M1 st.v c&&decide (st.w<12) then some (.term st.k st.x st.t st.v (st.w+1)) else Jx st.k st.x st.t c
 |6=>Jx st.k st.x st.t c
 |7=>if c==45 then some (.lit st.k 0) else none
 |8=>if Cf c then some (.lit st.k st.t) else if c==33 then some (.af st.k st.t) else if small c then some (.name st.k (some st.t) 1) else none
 |9=>if Cf c then some (.af st.k st.t) else if small c then some (.name st.k (some st.t) 1) else none
 |_=>none
def St.acc(st:St):Bool:=st.tag==0
abbrev Iq:=B8 ⊕ Bool
abbrev Iq.dead(rest:B8):Iq:=.inl rest
abbrev Iq.fin(acc:Bool):Iq:=.inr acc
def D:St->B8->Iq
 |st,[]=>Iq.fin st.acc
 |st,c::l=>match dl st (c.toNat:Int) with
  |none=>Iq.dead (c::l)
  |some q=>D q l
def F(l:B8):Iq:=match l with
 |[]=>Iq.fin false
 |c::r=>Iq.dead (c::r)
theorem YT(st:St)(l:B8)(h:dl st (hd l)=none)(j:st.acc=false):D st l=F l:=by
 cases l with
 |nil=>simp[D,F,j]
 |cons c l=>have q:dl st (c.toNat:Int)=none:=h;rw[D,q];rfl
theorem GF(st:St)(h:∀c,Cf c=true->dl st c=some st)(l:B8):D st l=D st (AD l):=by
 induction l with
 |nil=>rfl
 |cons c l q=>
  unfold AD
  split
  ·rename_i hb;rw[D,h _ hb];exact q
  ·rfl
theorem Pa(st q:St)(l:B8)(h:dl st (hd l)=dl q (hd l))(z:st.acc=q.acc):D st l=D q l:=by
 cases l with
 |nil=>simp[D,z]
 |cons c l=>have j:dl st (c.toNat:Int)=dl q (c.toNat:Int):=h;rw[D,D,j]
theorem lK(k:Nat)(x:Option Nat)(n w:Nat)(hn:n+w=12)(l:B8):D (.name k x w) l=D (.named k x) (l.drop (Bt Ax n l)):=by
 induction n generalizing w l with
 |zero=>
  have:Bt Ax 0 l=0:=by unfold Bt;rfl
  rw[this,B4];apply Pa
  ·simp only[dl,show ¬w<12 by omega,IQ,FK];rfl
  ·rfl
 |succ n q=>
  cases l with
  |nil=>rfl
  |cons c l=>
   unfold Bt;cases hc:Ax (c.toNat:Int)
   ·simp only[An,AM,B4];apply Pa
    ·simp only[dl,hd,hc,Dn];rfl
    ·rfl
   ·simp only[Bk,Cm];rw[D];simp only[dl,hc,BD,show w<12 by omega,JT,Bk];exact q (w+1) (by omega) l
theorem dL(k:Nat)(x:Option Nat)(t:Nat)(v:Bool)(n w:Nat)(hn:n+w=12)(l:B8):D (.term k x t v w) l=D (.bt k x t) (l.drop (Bt (M1 v) n l)):=by
 induction n generalizing w l with
 |zero=>
  have:Bt (M1 v) 0 l=0:=by unfold Bt;rfl
  rw[this,B4];apply Pa
  ·simp only[dl,show ¬w<12 by omega,IQ,FK];rfl
  ·rfl
 |succ n q=>
  cases l with
  |nil=>rfl
  |cons c l=>
   unfold Bt;cases hc:M1 v (c.toNat:Int)
   ·simp only[An,AM,B4];apply Pa
    ·simp only[dl,hd,hc,Dn];rfl
    ·rfl
   ·simp only[Bk,Cm];rw[D];simp only[dl,hc,BD,show w<12 by omega,JT,Bk];exact q (w+1) (by omega) l
theorem ET(l:B8)(m:Int)(q:m≠0)(h:AX l m=true):∃c r,AD l=c::r/\(c.toNat:Int)=m/\AT l m=r:=by
 unfold AT;rw[h,Ai rfl];unfold AX at h;rw[Co]at h
 cases hs:AD l with
 |nil=>rw[hs]at h;exact absurd h.symm q
 |cons c r=>rw[hs]at h;exact⟨c,r,rfl,h,rfl⟩
theorem GI(l:B8)(m:Int)(h:AX l m=false):(hd (AD l)==m)=false:=h
def jL(k:Nat)(l:B8):Iq:=if AX l 46=true then D (.top (k+1)) (AT l 46) else F (AD l)
theorem bJ(k:Nat)(l:B8):jL k (AD l)=jL k l:=by unfold jL;rw[E7,FU,Gs]
theorem dM(k:Nat)(x:Option Nat)(l:B8)(h:match x with|none=>AX l 58=false|some j=>(3<=j\/AX l 44=false)):D (.atom k x) l=jL k l:=by
 rw[GF _ (by intro c hc;simp[dl,hc])];unfold jL;have hb:=Ds l;cases h46:AX l 46
 ·rw[Af (by simp)];apply YT
  ·have q:=GI l 46 h46;simp only[dl,hb,TR,q,An,AM]
   cases x with
   |none=>have z:=GI l 58 h;simp only[z,An,AM]
   |some j=>
    rcases h with h|h
    ·simp only[show ¬j<3 by omega,IQ,FK,An,AM]
    ·have z:=GI l 44 h;simp only[z,Dn,An,AM]
  ·rfl
 ·rw[Ai rfl];obtain⟨c,r,hs,hc,ht⟩:=ET l 46 (by decide) h46;rw[hs,ht,D];have:dl (.atom k x) (c.toNat:Int)=some (.top (k+1)):=by rw[hc];rfl
  rw[this]
theorem Uw(k:Nat)(x:Option Nat)(t:Nat)(l:B8):D (.opened k x t) l=if Ep l=false then F (AD l) else D (.bt k x t) (Bw l):=by
 rw[GF _ (by intro c hc;simp[dl,hc])];have hb:=Ds l;unfold Ep Bw Hc;generalize AD l=m at*;cases h1:small (hd m)
 ·cases h2:CT (hd m)
  ·simp only[Bool.or_self,Bk];exact YT _ _ (by simp[dl,hb,h1,h2]) rfl
  ·simp only[CJ,AV,AM,Bk,An]
   cases m with
   |nil=>simp[hd,CT]at h2
   |cons c r=>
    have q:small (c.toNat:Int)=false:=h1;have z:CT (c.toNat:Int)=true:=h2;have j:Cf (c.toNat:Int)=false:=hb;have e:Bt AI 12 (c::r)=Bt AI 11 r+1:=by rw[Bt,Ai (Ia _ z).1]
    rw[D];simp only[dl,j,q,z,An,AM,Bk];rw[dL k x t true 11 1 rfl,e,Cm];rfl
 ·simp only[KN,AV,AM,Bk]
  cases m with
  |nil=>simp[hd,small]at h1
  |cons c r=>
   have q:small (c.toNat:Int)=true:=h1;have j:Cf (c.toNat:Int)=false:=hb;have e:Bt Ax 12 (c::r)=Bt Ax 11 r+1:=by rw[Bt,Ai (Ed _ q).1]
   rw[D];simp only[dl,j,q,An,AM,Bk];rw[dL k x t false 11 1 rfl,e,Cm];rfl
theorem Uv(k:Nat)(x:Option Nat)(t:Nat)(l:B8):D (.bt k x t) l=if AX l 41=true then D (.atom k x) (AT l 41) else if(AX l 44&&decide (t<2))=true then D (.opened k x (t+1)) (AT l 44) else F (AD l):=by
 rw[GF _ (by intro c hc;simp[dl,Jx,hc])];have hb:=Ds l;cases h41:AX l 41
 ·rw[Af (by simp)];have q:=GI l 41 h41;cases h44:AX l 44
  ·rw[Dn,Af (by simp)];have j:=GI l 44 h44;exact YT _ _ (by simp only[dl,Jx,hb,q,j,Dn,An,AM]) rfl
  ·obtain⟨c,r,hs,hc,ht⟩:=ET l 44 (by decide) h44;by_cases h2:t<2
   ·rw[BD,Ai (by simpa using h2),hs,ht,D];have:dl (.bt k x t) (c.toNat:Int)=some (.opened k x (t+1)):=by rw[hc];simp[dl,Jx,Cf,h2]
    rw[this]
   ·rw[BD,Af (by simpa using h2)];exact YT _ _ (by rw[hs];show dl _ (c.toNat:Int)=none;rw[hc];simp[dl,Jx,Cf,h2]) rfl
 ·rw[Ai rfl];obtain⟨c,r,hs,hc,ht⟩:=ET l 41 (by decide) h41;rw[hs,ht,D];have:dl (.bt k x t) (c.toNat:Int)=some (.atom k x):=by rw[hc];rfl
  rw[this]
theorem lN(s:ByteArray)(nm:B8)(np:Nat)(k:Nat)(x:Option Nat)(f:Nat)(ts:List B8)(ps:List Nat)(t:Nat)(ht:t+(f+1)=3)(l:B8):
 D (.opened k x t) l=if(CM s nm np (f+1) ts ps l).ok=true then D (.atom k x) (CM s nm np (f+1) ts ps l).rest else F (CM s nm np (f+1) ts ps l).rest:=by
 induction f generalizing ts ps t l with
 |zero=>
  rw[Uw,CM];cases h1:Ep l
  ·simp only[Bk,An,AM];have:Bw l=AD l:=by unfold Bw Hc;unfold Ep at h1;rw[Bb]at h1;rw[h1.1,h1.2];simp
   rw[this]
  ·simp only[AV,AM,Bk];rw[Uv];cases q:AX (Bw l) 41
   ·have h2:¬t<2:=by omega
    simp only[An,AM,h2,IQ,FK,DC _ _ q]
   ·simp
 |succ f j=>
  rw[Uw,CM];cases h1:Ep l
  ·simp only[Bk,An,AM];have:Bw l=AD l:=by unfold Bw Hc;unfold Ep at h1;rw[Bb]at h1;rw[h1.1,h1.2];simp
   rw[this]
  ·simp only[AV,AM,show ¬f+1=0 by omega];rw[Uv];have h2:t<2:=by omega
   cases h44:AX (Bw l) 44
   ·simp only[Bk,Dn,An,AM,DC _ _ h44,E7,FU];cases q:AX (Bw l) 41
    ·simp only[An,AM,DC _ _ q]
    ·simp
   ·have q:AX (Bw l) 41=false:=by unfold AX at h44⊢;rw[Co]at h44;rw[h44];rfl
    simp only[q,An,AM,BD,h2,JT,Bk,AV];exact j _ _ (t+1) (by omega) _
theorem iW(k:Nat)(x:Option Nat)(l:B8):D (.named k x) l=if AX l 40=true then D (.opened k x 0) (AT l 40) else D (.atom k x) (AD l):=by
 rw[GF _ (by intro c hc;simp[dl,OE,hc])];have hb:=Ds l;cases h40:AX l 40
 ·rw[Af (by simp)];have q:=GI l 40 h40;apply Pa
  ·simp only[dl,OE,hb,q,An,AM]
  ·rfl
 ·rw[Ai rfl];obtain⟨c,r,hs,hc,ht⟩:=ET l 40 (by decide) h40;rw[hs,ht,D];have:dl (.named k x) (c.toNat:Int)=some (.opened k x 0):=by rw[hc];rfl
  rw[this]
theorem Wk(s:ByteArray)(st:St)(k:Nat)(x:Option Nat)(l:B8)(g:∀c,Cf c=true->dl st c=some st)(z:st.acc=false\/AD l≠[])(v:∀c,small c=true->dl st c=some (.name k x 1))(y:small (hd (AD l))=false->dl st (hd (AD l))=none):
 D st l=if(Bf s l).ok=true then D (.atom k x) (Bf s l).rest else F (Bf s l).rest:=by
 rw[GF st g];unfold Bf;simp only[];generalize AD l=m at*;cases h1:small (hd m)
 ·simp only[Bk,An,AM]
  cases m with
  |nil=>
   rcases z with h|h
   ·exact YT _ _ (y h1) h
   ·exact absurd rfl h
  |cons c r=>have b:dl st (c.toNat:Int)=none:=y h1;rw[D,b];rfl
 ·simp only[AV,AM]
  cases m with
  |nil=>simp[hd,small]at h1
  |cons c r=>
   have j:small (c.toNat:Int)=true:=h1;have e:Bt Ax 12 (c::r)=Bt Ax 11 r+1:=by rw[Bt,Ai (Ed _ j).1]
   rw[D,v _ j];simp only[];rw[lK k x 11 1 rfl,e,Cm,iW];generalize r.drop (Bt Ax 11 r)=q;cases u:AX q 40
   ·simp only[An,AM,Bk,DC _ _ u]
   ·simp only[Bk,AV,AM];exact lN s _ _ k x 2 [] [] 0 rfl _
theorem jQ(s:ByteArray)(k j:Nat)(l:B8):D (.lit k j) l=if(Cd s l).ok=true then D (.atom k (some j)) (Cd s l).rest else F (Cd s l).rest:=by
 unfold Cd;cases h33:AX l 33
 ·rw[DC _ _ h33,GF _ (by intro c hc;simp[dl,hc])];refine Wk s (.lit k j) k (some j) (AD l) (by intro c hc;simp[dl,hc]) (.inl rfl) ?_ ?_
  ·intro c hc;obtain⟨_,f2,z,_,_⟩:=Ed c hc;have:(c==33)=false:=by unfold EY at z;simp only[Bb]at z;exact z.2
   simp[dl,f2,this,hc]
  ·rw[Gs];intro hs;have q:=GI l 33 h33;simp only[dl,Ds l,q,hs,An,AM]
 ·obtain⟨c,r,hs,hc,ht⟩:=ET l 33 (by decide) h33;rw[ht,GF _ (by intro c hc;simp[dl,hc]),hs,D];have:dl (.lit k j) (c.toNat:Int)=some (.af k j):=by rw[hc];rfl
  rw[this];refine Wk s (.af k j) k (some j) r (by intro c hc;simp[dl,hc]) (.inl rfl) ?_ ?_
  ·intro c hc;obtain⟨_,f2,_,_,_⟩:=Ed c hc;simp[dl,f2,hc]
  ·intro hs;simp only[dl,Ds r,hs,An,AM]
theorem lL(s:ByteArray)(k f:Nat)(j:Nat)(hj:j+(f+1)=4)(ls:List BQ)(sp:List Dg)(l:B8):
 D (.lit k j) l=if(ER s (f+1) ls sp l).ok=true then jL k (ER s (f+1) ls sp l).rest else F (ER s (f+1) ls sp l).rest:=by
 induction f generalizing j ls sp l with
 |zero=>
  rw[jQ s,ER];cases h1:(Cd s l).ok
  ·simp
  ·simp only[Bk,AV,AM];exact dM k (some j) _ (.inl (by omega))
 |succ f q=>
  rw[jQ s,ER];cases h1:(Cd s l).ok
  ·simp
  ·simp only[Bk,AV,AM,show ¬f+1=0 by omega];cases h44:AX (Cd s l).rest 44
   ·simp only[Bk];rw[DC _ _ h44,bJ];exact dM k (some j) _ (.inr h44)
   ·simp only[AV,AM];obtain⟨c,r,hs,hc,ht⟩:=ET (Cd s l).rest 44 (by decide) h44;rw[GF _ (by intro c hc;simp[dl,hc]),hs,D];have:dl (.atom k (some j)) (c.toNat:Int)=some (.lit k (j+1)):=by rw[hc];simp[dl,TR,Cf,show j<3 by omega]
    rw[this,ht];exact q (j+1) (by omega) _ _ r
theorem bL(k:Nat)(l:B8):jL k l=if AX l 46=true then D (.top (k+1)) (AT l 46) else F (AT l 46):=by
 unfold jL;cases h:AX l 46
 ·simp[DC _ _ h]
 ·simp
theorem dN(s:ByteArray)(k:Nat)(g:k<40)(l:B8)(y:AD l≠[]):D (.top k) l=if(BH s l).ok=true then D (.top (k+1)) (BH s l).rest else F (BH s l).rest:=by
 have u:=Wk s (.top k) k none l (by intro c hc;simp[dl,hc]) (.inr y) (by intro c hc;obtain⟨_,f2,_⟩:=Ed c hc;simp[dl,f2,hc,g]) (by intro hs;simp[dl,Ds l,hs]);rw[u];unfold BH;cases h1:(Bf s l).ok
 ·simp
 ·simp only[Bk,AV,AM];generalize (Bf s l).rest=r at*;cases j:AX r 58
  ·simp only[Bk];rw[DC _ _ j,E7,FU,dM k none r j,bL]
  ·simp only[AV,AM];obtain⟨c,q,hs,hc,ht⟩:=ET r 58 (by decide) j;rw[GF _ (by intro c hc;simp[dl,hc]),hs,D];have:dl (.atom k none) (c.toNat:Int)=some (.colon k):=by rw[hc];rfl
   rw[this,ht];simp only[];unfold Dc;cases h45:(hd q==45)
   ·simp only[Bk,An,AM];exact YT _ _ (by simp only[dl,h45,An,AM]) rfl
   ·simp only[AV,AM]
    cases q with
    |nil=>simp[hd]at h45
    |cons d q=>
     have z:((d.toNat:Int)==45)=true:=h45;rw[D];simp only[dl,z,Bk,List.tail_cons];have v:=lL s k 3 0 rfl [] [Ce s l] q;rw[show 3+1=4 from rfl]at v;rw[v];by_cases hb:(ER s 4 [] [Ce s l] q).ok=true
     ·simp only[hb,Bk,AV,AM];rw[bL]
     ·rw[DA]at hb;simp[hb]
theorem lJ(s:ByteArray)(f k:Nat)(hk:k+f=40)(ds:List Bd)(l:B8):D (.top k) l=if(EP s f ds l).ok=true then Iq.fin true else F (EP s f ds l).rest:=by
 induction f generalizing k ds l with
 |zero=>
  rw[EP];rcases Ee l with hs|⟨c,r,hs,hb⟩
  ·rw[GF _ (by intro c hc;simp[dl,hc]),hs];rfl
  ·rw[GF _ (by intro c hc;simp[dl,hc]),hs];have:dl (.top k) (c.toNat:Int)=none:=by simp[dl,hb,show ¬k<40 by omega]
   rw[D,this];simp[F]
 |succ f j=>
  rw[EP];rcases Ee l with hs|⟨c,r,hs,hb⟩
  ·rw[GF _ (by intro c hc;simp[dl,hc]),hs];rfl
  ·have q:(AD l).isEmpty=false:=by rw[hs];rfl
   rw[GF _ (by intro c hc;simp[dl,hc]),dN s k (by omega) (AD l) (by rw[Gs,hs];simp)];simp only[q,An,AM];cases h1:(BH s (AD l)).ok
   ·simp
   ·simp only[Bk,AV,AM];exact j (k+1) (by omega) _ _
theorem QG(s:ByteArray):D (.top 0) s.data.toList=if(Bs s).ok=true then Iq.fin true else F (Bs s).rest:=lJ s 40 0 rfl [] _
def Nd:St->B8->Option St
 |st,[]=>some st
 |st,c::l=>match dl st (c.toNat:Int) with
  |none=>none
  |some q=>Nd q l
theorem nD(st:St)(u l:B8):D st (u++l)=match Nd st u with|some j=>D j l|none=>D st (u++l):=by
 induction u generalizing st with
 |nil=>rfl
 |cons c u z=>
  rw[List.cons_append,Nd]
  cases h:dl st (c.toNat:Int) with
  |none=>rfl
  |some j=>
   simp only[];rw[D,h];simp only[];have:=z j
   cases hr:Nd j u with
   |none=>rfl
   |some q=>rw[hr]at this;simp only[]at this⊢;exact this
theorem Zp(st:St)(u l:B8)(h:Nd st u=none):∃r,D st (u++l)=Iq.dead (r++l)/\r≠[]:=by
 induction u generalizing st with
 |nil=>simp[Nd]at h
 |cons c u j=>
  rw[Nd]at h
  cases hd':dl st (c.toNat:Int) with
  |none=>exact⟨c::u,by rw[List.cons_append,D,hd'],by simp⟩
  |some q=>rw[hd']at h;obtain⟨r,h1,h2⟩:=j q h;exact⟨r,by rw[List.cons_append,D,hd'];exact h1,h2⟩
theorem kV(st q:St)(c:Int)(h:dl st c=some q):q.tag<10:=by
 unfold dl OE Jx TR at h
 repeat' split at h
 all_goals first|(simp at h;done)|(simp at h;subst h;simp)
theorem eI(st j:St)(u:B8)(hs:st.tag<10)(h:Nd st u=some j):j.tag<10:=by
 induction u generalizing st with
 |nil=>simp[Nd]at h;rw[<-h];exact hs
 |cons c u z=>
  rw[Nd]at h
  cases hd':dl st (c.toNat:Int) with
  |none=>rw[hd']at h;simp at h
  |some q=>rw[hd']at h;exact z q (kV _ _ _ hd') h
def B6:List B8:=[[],[46],[97,46],[97,41,46],[41,46],[45,97,46],[97],[97,41],[41]]
theorem fD(st:St)(h:st.tag<10):∃e∈B6,D st e=Iq.fin true:=by
 obtain⟨tag,k,x,t,v,w⟩:=st;simp only[]at h;have hc:tag=0\/tag=1\/tag=2\/tag=3\/tag=4\/tag=5\/tag=6\/tag=7\/tag=8\/tag=9:=by omega
 rcases hc with rfl|rfl|rfl|rfl|rfl|rfl|rfl|rfl|rfl|rfl
 ·exact⟨[],by simp[B6],rfl⟩
 ·exact⟨[46],by simp[B6],rfl⟩
 ·exact⟨[46],by simp[B6],rfl⟩
 ·exact⟨[46],by simp[B6],rfl⟩
 ·exact⟨[97,41,46],by simp[B6],rfl⟩
 ·refine⟨[41,46],by simp[B6],?_⟩;cases v<;>rfl
 ·exact⟨[41,46],by simp[B6],rfl⟩
 ·exact⟨[45,97,46],by simp[B6],rfl⟩
 ·exact⟨[97,46],by simp[B6],rfl⟩
 ·exact⟨[97,46],by simp[B6],rfl⟩
theorem VQ(l:B8):(bs l).data.toList=l:=by simp[bs]
def Oz(l:B8):Bool:=(Bs (bs l)).ok
theorem WH(l:B8):Oz l=true↔D (.top 0) l=Iq.fin true:=by
 have h:=QG (bs l);rw[VQ]at h;unfold Oz;rw[h];cases hok:(Bs (bs l)).ok
 ·simp only[An,AM,false_iff];unfold F
  split<;>simp[Iq.fin,Iq.dead]
 ·simp
def Tf(l:B8):Bool:=B6.any fun e=>Oz (l++e)
theorem Te(l:B8):Tf l=(Nd (.top 0) l).isSome:=by
 unfold Tf
 cases hr:Nd (.top 0) l with
 |some st=>
  obtain⟨e,z,j⟩:=fD st (eI _ _ _ (by decide) hr);have:Oz (l++e)=true:=by rw[WH,nD,hr];exact j
  simp only[Option.isSome_some,Ey];exact⟨e,z,this⟩
 |none=>simp only[Option.isSome_none,YZ];intro e _ q;rw[WH]at q;obtain⟨r,h1,_⟩:=Zp _ _ e hr;rw[h1]at q;simp[Iq.fin,Iq.dead]at q
def F8(s:B8):Nat->Nat->Nat
 |0,i=>i
 |f+1,i=>if Tf (s.take (i+1))=true then F8 s f (i+1) else i
def IF(s:B8):Nat:=F8 s s.length 0
theorem Ws(st:St)(u l:B8):Nd st (u++l)=(Nd st u).bind fun q=>Nd q l:=by
 induction u generalizing st with
 |nil=>rfl
 |cons c u j=>
  rw[List.cons_append,Nd,Nd]
  cases dl st (c.toNat:Int) with
  |none=>rfl
  |some q=>exact j q
theorem NH(s:B8)(rest:B8)(u:B8)(hs:s=u++rest)(h1:(Nd (.top 0) u).isSome=true)(h2:∀c r,rest=c::r->Nd (.top 0) (u++[c])=none):IF s=u.length:=by
 have y:∀f i,f+i=s.length->i<=u.length->F8 s f i=u.length:=by
  intro f
  induction f with
  |zero=>
   intro i j k;have:s.length=u.length+rest.length:=by rw[hs];simp
   simp only[F8];omega
  |succ f v=>
   intro i j k;rw[F8];by_cases q0:i<u.length
   ·have:Tf (s.take (i+1))=true:=by
     rw[Te,hs,JU (by omega)];have q:u=u.take (i+1)++u.drop (i+1):=(Je _ _).symm;rw[q,Ws]at h1
     cases hq:Nd (.top 0) (u.take (i+1)) with
     |none=>rw[hq]at h1;simp at h1
     |some st=>rfl
    rw[Ai this];exact v (i+1) (by omega) (by omega)
   ·have z:i=u.length:=by omega
    subst z
    cases hr:rest with
    |nil=>rw[hs,hr]at j;simp at j
    |cons c r=>
     have hn:=h2 c r hr
     have:Tf (s.take (u.length+1))=false:=by
      rw[Te,hs,hr];have:(u++c::r).take (u.length+1)=u++[c]:=by rw[dQ,C3 (by omega)];simp
      rw[this,hn];rfl
     rw[this,Af (by simp)]
 exact y s.length 0 (by omega) (by omega)
theorem lM(st:St)(l rest:B8)(h:D st l=Iq.dead rest):∃u c r,rest=c::r/\l=u++rest/\∃q,Nd st u=some q/\dl q (c.toNat:Int)=none:=by
 induction l generalizing st with
 |nil=>simp[D,Iq.fin,Iq.dead]at h
 |cons c l y=>
  rw[D]at h
  cases hd':dl st (c.toNat:Int) with
  |none=>rw[hd']at h;simp only[Iq.dead,Sum.inl.injEq]at h;exact⟨[],c,l,h.symm,by rw[h];rfl,st,rfl,hd'⟩
  |some q=>rw[hd']at h;obtain⟨u,c',r,h1,h2,j,h3,z⟩:=y q h;exact⟨c::u,c',r,h1,by rw[h2];rfl,j,by rw[Nd,hd'];exact h3,z⟩
theorem nE(st:St)(l:B8)(b:Bool)(h:D st l=Iq.fin b):(Nd st l).isSome=true:=by
 induction l generalizing st with
 |nil=>rfl
 |cons c l j=>
  rw[D]at h;rw[Nd]
  cases hd':dl st (c.toNat:Int) with
  |none=>rw[hd']at h;simp[Iq.fin,Iq.dead]at h
  |some q=>rw[hd']at h;exact j q h
theorem Sh(s:ByteArray)(h:(Bs s).ok=false):IF s.data.toList=Bn s (Bs s).rest:=by
 have j:=QG s;rw[h,Af (by simp)]at j;have z:s.size=s.data.toList.length:=by simp
 unfold Bn;rw[z];generalize s.data.toList=l at*;generalize (Bs s).rest=rest at*
 cases rest with
 |nil=>have:=NH l [] l (by simp) (nE _ _ false j) (by intro c r e;simp at e);simpa using this
 |cons c r=>
  obtain⟨u,c',r',h1,h2,q0,h3,k⟩:=lM _ _ _ j
  injection h1 with h1 q
  subst h1 q
  have:=NH l (c::r) u h2 (by rw[h3];rfl) (by
   intro c2 r2 e
   injection e with e y
   subst e y;rw[Ws,h3]
   simp only[Option.bind_some,Nd,k])
  rw[this,h2];simp
end
section
attribute [local go_sem] AE As
open Go.RowKit Go.WideMaps Go.Maps
theorem H3(c:Int)(w:World):Calls prog 98 #[.int .u8 c] w fun e w'=>e=.returned (.bool (Ax c))/\w'=w:=by
 by_cases h1:97<=c<;>by_cases h2:c<=122<;>by_cases h3:48<=c<;>by_cases q:c<=57
 all_goals try (exfalso;omega)
 all_goals
  go_enter func98,ntmps98;go_wp2
  go_ret
  exact⟨by simp[Ax,small,h1,h2,h3,q],rfl⟩
theorem IX(c:Int)(w:World):Calls prog 99 #[.int .u8 c] w fun e w'=>e=.returned (.bool (CT c))/\w'=w:=by
 by_cases h1:65<=c<;>by_cases h2:c<=90
 all_goals
  go_enter func99,ntmps99;go_wp2
  go_ret
  exact⟨by simp[CT,h1,h2],rfl⟩
theorem Wu(c:Int)(w:World):Calls prog 97 #[.int .u8 c] w fun e w'=>e=.returned (.bool (EY c))/\w'=w:=by
 by_cases h1:c=40
 ·subst h1;go_enter func97,ntmps97;go_wp2
  go_ret
  exact⟨rfl,rfl⟩
 ·by_cases h2:c=41
  ·subst h2;go_enter func97,ntmps97;go_wp2
   go_ret
   exact⟨rfl,rfl⟩
  ·by_cases h3:c=44
   ·subst h3;go_enter func97,ntmps97;go_wp2
    go_ret
    exact⟨rfl,rfl⟩
   ·by_cases q:c=46
    ·subst q;go_enter func97,ntmps97;go_wp2
     go_ret
     exact⟨rfl,rfl⟩
    ·have j:(c==40)=false:=by simpa using h1
     have z:(c==41)=false:=by simpa using h2
     have y:(c==44)=false:=by simpa using h3
     have k:(c==46)=false:=by simpa using q
     go_enter func97,ntmps97;go_wp2
     go_ret
     exact⟨by simp[EY,j,z,y,k],rfl⟩
theorem D4(a b:B8):((bs a).toList==(bs b).toList)=decide (a=b):=by
 rw[Fm,Fm,VQ,VQ];by_cases h:a=b
 ·simp[h]
 ·simp[h]
theorem Om(w:World)(base:Nat)(ao:Option Addr)(cap:Nat)(xs:List B8)(b:w.ownsRow base 9 1 (.slice ao xs.length cap) xs.length (xs.map fun x=>.string (bs x)))(hn:xs.length<=100000)(k:B8):
 Calls prog 34 #[.slice ao xs.length cap,.string (bs k)] w fun e w'=>e=.returned (.bool (BZ xs k))/\w'=w:=by
 go_enter func34,ntmps34;go_wp2
 go_loopw [5] (fun v wr=>∃(i:Nat),i<=xs.length/\v=.int .i64 i/\Hid ((xs.drop i).contains k=BZ xs k)/\wr=w) (fun v _=>xs.length-(intOf v).toNat)
 case atStart=>exact⟨0,by omega,rfl,rfl,rfl⟩
 case round=>
  obtain⟨i,hi,rfl,y,rfl⟩:=hrel;by_cases q:i<xs.length
  ·obtain⟨g,rfl,u⟩:=DO b i q;have q0:wr.cell? ⟨g,i,none⟩=some (.string (bs xs[i])):=by rw[u];simp[q]
   have HD:Hid ((xs.drop i).contains k=(decide (xs[i]=k)||(xs.drop (i+1)).contains k)):=by
    show _=_;rw[Aa q,Wn];congr 1;by_cases h:xs[i]=k
    ·simp[h]
    ·simp[h,show ¬k=xs[i] from fun e=>h e.symm]
   have hq:=D4 xs[i] k;clear u;generalize xs[i]=x at*;cases hd:decide (x=k)
   ·rw[hd]at hq HD;go_wp2;exact⟨⟨i+1,q,by go_num,by show _=_;rw[<-y.out,HD.out];rfl,trivial⟩,by simp[intOf];omega⟩
   ·rw[hd]at hq HD;have z:=Ao (show BZ xs k=true by rw[<-y.out,HD.out];rfl);go_wp2
    go_ret
    rw[z.out];exact⟨rfl,rfl⟩
  ·have j:i=xs.length:=by omega
   have z:=Ao (show BZ xs k=false by rw[<-y.out,j,AR];rfl);clear j;go_wp2
   go_ret
   rw[z.out];exact⟨rfl,rfl⟩
def Pc.m(p:Pc):Int:=(p.mark.toNat:Int)
def Pc.w(p:Pc):ByteArray:=bs p.s
def Pc.cells(p:Pc):List Value:=[.int .u8 p.m,.string p.w,.int .i64 (p.pl:Nat)]
theorem X2:(prog.info? 189).map (fun i=>(i.zero,i.size,i.bytes))=some (some (.agg #[.int .u8 0,.string ⟨#[]⟩,.int .i64 0]),3,32):=by kernel_rfl
def Fk(w0 w:World)(v:Value)(acc:List Pc):Prop:=w.ownsRow w0.heap.size 189 3 v acc.length (acc.flatMap Pc.cells)
theorem OY(s:ByteArray)(p:Nat)(h:p<s.size):T s.size (s.data.toList.drop p)=match Lm p s[p] (s.data.toList.drop (p+1)) with|none=>none|some (q,k)=>(T s.size (s.data.toList.drop (p+k))).map (q++ ·):=by
 have hl:(s.data.toList.drop p).length=s.size-p:=by rw[G1];simp
 have e:=DW s p h;have j:s.size-(s.data.toList.drop p).length=p:=by omega
 rw[e,IM,<-e,j]
 cases Lm p s[p] (s.data.toList.drop (p+1)) with
 |none=>rfl
 |some x=>obtain⟨q,k⟩:=x;simp only[];rw[GH]
def FJ(s:ByteArray)(acc:List Pc)(p:Nat):Prop:=(T s.size (s.data.toList.drop p)).map (acc++ ·)=T s.size s.data.toList
theorem Vo{s:ByteArray}{acc:List Pc}{p:Nat}(h:FJ s acc p)(q:p<s.size)(hb:Cf (s[p].toNat:Int)=true):FJ s acc (p+1):=by unfold FJ at*;rw[OY s p q,Lm,Ai hb]at h;rw[<-h,Sb];rfl
theorem XU{s:ByteArray}{acc:List Pc}{p:Nat}(h:FJ s acc p)(q:p<s.size)(hb:Cf (s[p].toNat:Int)=false)(hs:EY (s[p].toNat:Int)=true):FJ s (acc++[⟨s[p],[],p⟩]) (p+1):=by
 unfold FJ at*;rw[OY s p q,Lm,Af (by simp[hb]),Ai hs]at h;rw[<-h,Sb];congr 1
 funext x
 simp
theorem Vn{s:ByteArray}{acc:List Pc}{p:Nat}(h:FJ s acc p)(q:p<s.size)(hb:Cf (s[p].toNat:Int)=false)(hs:EY (s[p].toNat:Int)=false)(hc:((s[p].toNat:Int)==58&&hd (s.data.toList.drop (p+1))==45)=true):FJ s (acc++[⟨s[p],[],p⟩]) (p+2):=by
 unfold FJ at*;rw[OY s p q,Lm,Af (by simp[hb]),Af (by simp[hs]),Ai hc]at h;rw[<-h,Sb];congr 1
 funext x
 simp
theorem I3{s:ByteArray}{acc:List Pc}{p:Nat}(h:FJ s acc p)(q:p<s.size)(hn:Lm p s[p] (s.data.toList.drop (p+1))=none):T s.size s.data.toList=none:=by unfold FJ at h;rw[OY s p q,hn]at h;exact h.symm
theorem Kv{s:ByteArray}{acc:List Pc}{p k:Nat}{mk:UInt8}(h:FJ s acc p)(j:p<s.size)(q:Lm p s[p] (s.data.toList.drop (p+1))=some ([⟨mk,(s.data.toList.drop p).take (k+1),p⟩],k+1)):FJ s (acc++[⟨mk,(s.data.toList.drop p).take (k+1),p⟩]) (p+(k+1)):=by
 unfold FJ at*;rw[OY s p j,q]at h;rw[<-h,Sb];congr 1
 funext x
 simp
theorem Fk.more{w0 w:World}{g cap:Nat}{acc:List Pc}{p:Pc}{cs:List Value}(h:w.ownsRow w0.heap.size 189 3 (.slice (some ⟨g,0,none⟩) (acc.length+1) cap) (acc.length+1) (acc.flatMap Pc.cells++cs))(hc:p.cells=cs):Fk w0 w (.slice (some ⟨g,0,none⟩) (acc.length+1) cap) (acc++[p]):=by unfold Fk;rw[Am,List.length_singleton,BG,Ca,hc];exact h
theorem Qr(s:ByteArray)(p:Nat)(h:p<s.size):hd (s.data.toList.drop p)=(s[p].toNat:Int):=by rw[DW s p h];rfl
theorem kR(s:ByteArray)(p:Nat)(h:¬p<s.size):hd (s.data.toList.drop p)=0:=by rw[Ie s p h];rfl
theorem Kj(j:Int->Bool)(s:ByteArray)(q:Nat)(h:q<s.size):CU j (s.data.toList.drop q)=if j (s[q].toNat:Int)=true then CU j (s.data.toList.drop (q+1))+1 else 0:=by rw[DW s q h,CU]
theorem Sl(j:Int->Bool)(s:ByteArray)(q:Nat)(h:¬q<s.size):CU j (s.data.toList.drop q)=0:=by rw[Ie s q h];rfl
def Wh(w:World)(s:ByteArray)(e:Ending)(w':World):Prop:=
 ((∃ps v,T s.size s.data.toList=some ps/\e=.returned (.tuple #[v,.bool true])/\Fk w w' v ps/\ps.length<=s.size)\/(T s.size s.data.toList=none/\e=.returned (.tuple #[.slice none 0 0,.bool false])))/\Below w.heap.size w w'
theorem H6(w:World)(s:ByteArray)(hs:s.size<=3000):Calls prog 61 #[.string s] w fun e w'=>Wh w s e w':=by
 obtain⟨I,Q,J,Z,Y⟩:=Bc X2;go_enter func61,ntmps61;go_wp2
 go_loopw [4,5] (fun lv O wr=>∃(p:Nat) (acc:List Pc),p<=s.size/\O=.int .i64 p/\Fk w wr lv acc/\acc.length<=p/\Hid (FJ s acc p)/\Below w.heap.size w wr) (fun _ O _=>s.size-(intOf O).toNat)
 case atStart=>exact⟨0,[],by omega,rfl,Ak _ _ _ _,by simp,by show(T s.size (s.data.toList.drop 0)).map ([]++ ·)=_;rw[B4,S8],Ag _ _⟩
 case round=>
  obtain⟨p,acc,hp,rfl,hR,j3,HL,G⟩:=hrel;by_cases d:p<s.size
  ·have j4:=G.size;by_cases hb:Cf (s[p].toNat:Int)=true
   ·have U:=Ao (Vo HL.out d hb)
    rcases(show((s[p].toNat:Int)==32)=true\/(((s[p].toNat:Int)==32)=false/\((s[p].toNat:Int)==10)=true) by
     unfold Cf at hb;cases q2:((s[p].toNat:Int)==32)
     ·rw[q2]at hb;exact .inr ⟨rfl,hb⟩
     ·exact .inl rfl) with q2|⟨q2,j2⟩
    ·clear hb;go_wp2;exact⟨⟨p+1,acc,d,by go_num,hR,by omega,U,G⟩,by simp[intOf];omega⟩
    ·clear hb;go_wp2;exact⟨⟨p+1,acc,d,by go_num,hR,by omega,U,G⟩,by simp[intOf];omega⟩
   ·rw[DA]at hb;have j0:((s[p].toNat:Int)==32)=false:=by unfold Cf at hb;rw[Bb]at hb;exact hb.1
    have q9:((s[p].toNat:Int)==10)=false:=by unfold Cf at hb;rw[Bb]at hb;exact hb.2
    obtain⟨lo,j1,rfl⟩:=Au hR;cases hsg:EY (s[p].toNat:Int)
    ·have V:Hid (∀W:World,Calls prog 97 #[.int .u8 (s[p].toNat:Int)] W fun e w'=>e=.returned (.bool false)/\w'=W):=by intro W;have:=Wu (s[p].toNat:Int) W;rw[hsg]at this;exact this
     by_cases S:((s[p].toNat:Int)==58)=true
     ·by_cases l:p+1<s.size/\hd (s.data.toList.drop (p+1))=45
      ·obtain⟨o,l⟩:=l;have U:=Ao (Vn HL.out d hb hsg (by rw[S,l];rfl));rw[Qr s (p+1) o]at l;have q4:((s[p+1].toNat:Int)==45)=true:=by rw[l];rfl
       clear hb hsg HL l;go_wp2_with fail;refine(V.out _).mono ?_;rintro e y ⟨rfl,z⟩;subst y;go_wp2_with (at_builtin;refine AF _ rfl _ _ 122 rfl w.heap.size 189 I _ 3 32 underlying122 Q J Z Y rfl (by decide) _ acc.length (acc.flatMap Pc.cells) rfl (hR.alloc _) ⟨wr.heap.size,0,none⟩ 1 [.int .u8 (s[p].toNat:Int),.string ⟨#[]⟩,.int .i64 (p:Nat)] rfl rfl (AS _ _ _) (by intro u x;simp at x;rcases x with rfl|rfl|rfl<;>rfl) (by unfold maxLen;omega) (by omega) (by simp;omega) ?_;intro g c w2 t v);exact⟨⟨p+2,acc++[⟨s[p],[],p⟩],by omega,by go_num,Fk.more t rfl,by simp;omega,U,(G.alloc (by omega) _).grown v (by simp;omega) (A9 hR)⟩,by simp[intOf];omega⟩
      ·have B:(s[p].toNat:Int)=58:=by simpa using S
       have M:Lm p s[p] (s.data.toList.drop (p+1))=none:=by
        unfold Lm
        have q5:((s[p].toNat:Int)==58&&hd (s.data.toList.drop (p+1))==45)=false:=by
            rw[S,BD,Az];intro e;by_cases o:p+1<s.size
            ·exact l ⟨o,e⟩
            ·rw[kR s (p+1) o]at e;simp at e
        rw[Af (by simp[hb]),Af (by simp[hsg]),Af (by simp[q5]),Af (by rw[B];decide),Af (by rw[B];decide)]
       have P:=Ao (I3 HL.out d M);have q6:Hid (∀W:World,Calls prog 99 #[.int .u8 (s[p].toNat:Int)] W fun e w'=>e=.returned (.bool false)/\w'=W):=by intro W;have:=IX (s[p].toNat:Int) W;rw[show CT (s[p].toNat:Int)=false by rw[B];decide]at this;exact this
       have N:¬(97<=(s[p].toNat:Int)):=by omega
       by_cases o:p+1<s.size
       ·have q4:((s[p+1].toNat:Int)==45)=false:=by rw[Az];intro e;exact l ⟨o,by rw[Qr s (p+1) o];exact e⟩
        clear hb hsg HL l B M;go_wp2_with fail;refine(V.out _).mono ?_;rintro e y ⟨rfl,z⟩;subst y;go_wp2_with fail;refine(q6.out _).mono ?_;rintro e y ⟨rfl,z⟩;subst y;go_wp2_with fail;go_ret2;exact⟨.inr ⟨P.out,rfl⟩,G⟩
       ·clear hb hsg HL l B M;go_wp2_with fail;refine(V.out _).mono ?_;rintro e y ⟨rfl,z⟩;subst y;go_wp2_with fail;refine(q6.out _).mono ?_;rintro e y ⟨rfl,z⟩;subst y;go_wp2_with fail;go_ret2;exact⟨.inr ⟨P.out,rfl⟩,G⟩
     ·rw[DA]at S;have f:((s[p].toNat:Int)==58&&hd (s.data.toList.drop (p+1))==45)=false:=by rw[S];rfl
      cases hsm:small (s[p].toNat:Int)
      ·cases hgt:CT (s[p].toNat:Int)
       ·have P:=Ao (I3 HL.out d (by unfold Lm;rw[Af (by simp[hb]),Af (by simp[hsg]),Af (by simp[f]),Af (by simp[hsm]),Af (by simp[hgt])]));have L:Hid (∀W:World,Calls prog 99 #[.int .u8 (s[p].toNat:Int)] W fun e w'=>e=.returned (.bool false)/\w'=W):=by intro W;have:=IX (s[p].toNat:Int) W;rw[hgt]at this;exact this
        rcases(show ¬(97<=(s[p].toNat:Int))\/(97<=(s[p].toNat:Int)/\¬((s[p].toNat:Int)<=122)) by unfold small at hsm;simp at hsm;omega) with N|⟨N,q3⟩
        ·clear hb hsg f hsm hgt HL;go_wp2_with fail;refine(V.out _).mono ?_;rintro e y ⟨rfl,z⟩;subst y;go_wp2_with fail;refine(L.out _).mono ?_;rintro e y ⟨rfl,z⟩;subst y;go_wp2_with fail;go_ret2;exact⟨.inr ⟨P.out,rfl⟩,G⟩
        ·clear hb hsg f hsm hgt HL;go_wp2_with fail;refine(V.out _).mono ?_;rintro e y ⟨rfl,z⟩;subst y;go_wp2_with fail;refine(L.out _).mono ?_;rintro e y ⟨rfl,z⟩;subst y;go_wp2_with fail;go_ret2;exact⟨.inr ⟨P.out,rfl⟩,G⟩
       ·have N:¬(97<=(s[p].toNat:Int)):=by unfold CT at hgt;simp at hgt;omega
        have E:Lm p s[p] (s.data.toList.drop (p+1))=if 12<CU AI (s.data.toList.drop (p+1))+1 then none else some ([⟨118,(s.data.toList.drop p).take (CU AI (s.data.toList.drop (p+1))+1),p⟩],CU AI (s.data.toList.drop (p+1))+1):=by unfold Lm;rw[Af (by simp[hb]),Af (by simp[hsg]),Af (by simp[f]),Af (by simp[hsm]),Ai hgt,<-DW s p d]
        have b:=Ao E;have L:Hid (∀W:World,Calls prog 99 #[.int .u8 (s[p].toNat:Int)] W fun e w'=>e=.returned (.bool true)/\w'=W):=by intro W;have:=IX (s[p].toNat:Int) W;rw[hgt]at this;exact this
        clear hb hsg f hsm E hgt;go_wp2_with fail;refine(V.out _).mono ?_;rintro e y ⟨rfl,z⟩;subst y;go_wp2_with fail;refine(L.out _).mono ?_;rintro e y ⟨rfl,z⟩;subst y;go_wp2_with fail
        go_loopw [5] (fun O wq=>∃(q:Nat),p+1<=q/\q<=s.size/\O=.int .i64 q/\Hid (CU AI (s.data.toList.drop (p+1))=(q-(p+1))+CU AI (s.data.toList.drop q))/\wq=wr) (fun O _=>s.size-(intOf O).toNat)
        case atStart=>exact⟨p+1,by omega,by omega,by go_num,by show _=_;omega,rfl⟩
        case round=>
            obtain⟨q,q8,A,rfl,C,rfl⟩:=hrel;by_cases r:q<s.size/\AI (hd (s.data.toList.drop q))=true
            ·obtain⟨r,j⟩:=r;rw[Qr s q r]at j;have H:Hid (CU AI (s.data.toList.drop (p+1))=(q+1-(p+1))+CU AI (s.data.toList.drop (q+1))):=by show _=_;rw[C.out,Kj AI s q r,Ai j];omega
             cases X:Ax (s[q].toNat:Int)
             ·have q0:CT (s[q].toNat:Int)=true:=by unfold AI at j;rw[X,MO]at j;exact j
              go_wp2_with (first|(go_at_call 98;refine(H3 _ _).mono ?_;rintro e y ⟨m,z⟩;subst y;rw[X]at m;subst m)|(go_at_call 99;refine(IX _ _).mono ?_;rintro e y ⟨m,z⟩;subst y;rw[q0]at m;subst m));exact⟨⟨q+1,by omega,by omega,by go_num,H,trivial⟩,by simp[intOf];omega⟩
             ·go_wp2_with (go_at_call 98;refine(H3 _ _).mono ?_;rintro e y ⟨m,z⟩;subst y;rw[X]at m;subst m);exact⟨⟨q+1,by omega,by omega,by go_num,H,trivial⟩,by simp[intOf];omega⟩
            ·by_cases n:q<s.size
             ·have j:AI (s[q].toNat:Int)=false:=by rw[<-Qr s q n,<-DA];exact fun h=>r ⟨n,h⟩
              have i:CU AI (s.data.toList.drop q)=0:=by rw[Kj AI s q n,j,Af (by simp)]
              have q0:CT (s[q].toNat:Int)=false:=by unfold AI at j;rw[Bb]at j;exact j.1
              have X:Ax (s[q].toNat:Int)=false:=by unfold AI at j;rw[Bb]at j;exact j.2
              clear r j;have K:=Ao (show CU AI (s.data.toList.drop (p+1))=q-(p+1) by rw[C.out,i];omega);have a:s.extract p q=(⟨118,(s.data.toList.drop p).take (q-(p+1)+1),p⟩:Pc).w:=by have:=Eg s p (q-p);rw[show p+(q-p)=q by omega]at this;rw[this,show q-p=q-(p+1)+1 by omega];rfl
              have R:=Ao a;clear a i;by_cases q1:12<q-p
              ·have P:=Ao (I3 HL.out d (by rw[b.out,K.out,Ai (by omega)]));clear b HL K C;go_wp2_with (first|(go_at_call 98;refine(H3 _ _).mono ?_;rintro e y ⟨m,z⟩;subst y;rw[X]at m;subst m)|(go_at_call 99;refine(IX _ _).mono ?_;rintro e y ⟨m,z⟩;subst y;rw[q0]at m;subst m)|(at_builtin;refine AF _ rfl _ _ 122 rfl w.heap.size 189 I _ 3 32 underlying122 Q J Z Y rfl (by decide) _ acc.length (acc.flatMap Pc.cells) rfl (hR.alloc _) ⟨wr.heap.size,0,none⟩ 1 [.int .u8 118,.string (s.extract p q),.int .i64 (p:Nat)] rfl rfl (AS _ _ _) (by intro u x;simp at x;rcases x with rfl|rfl|rfl<;>rfl) (by unfold maxLen;omega) (by omega) (by simp;omega) ?_;intro g c w2 t v));go_ret2;exact⟨.inr ⟨P.out,rfl⟩,(G.alloc (by omega) _).grown v (by simp;omega) (A9 hR)⟩
              ·have U:=Ao (Kv HL.out d (k:=q-(p+1)) (mk:=118) (by rw[b.out,K.out,Af (by omega)]));rw[show p+(q-(p+1)+1)=q by omega]at U;clear b HL K C;go_wp2_with (first|(go_at_call 98;refine(H3 _ _).mono ?_;rintro e y ⟨m,z⟩;subst y;rw[X]at m;subst m)|(go_at_call 99;refine(IX _ _).mono ?_;rintro e y ⟨m,z⟩;subst y;rw[q0]at m;subst m)|(at_builtin;refine AF _ rfl _ _ 122 rfl w.heap.size 189 I _ 3 32 underlying122 Q J Z Y rfl (by decide) _ acc.length (acc.flatMap Pc.cells) rfl (hR.alloc _) ⟨wr.heap.size,0,none⟩ 1 [.int .u8 118,.string (s.extract p q),.int .i64 (p:Nat)] rfl rfl (AS _ _ _) (by intro u x;simp at x;rcases x with rfl|rfl|rfl<;>rfl) (by unfold maxLen;omega) (by omega) (by simp;omega) ?_;intro g c w2 t v));exact⟨⟨q,_,A,by go_num,Fk.more t (by rw[R.out];rfl),by simp;omega,U,(G.alloc (by omega) _).grown v (by simp;omega) (A9 hR)⟩,by simp[intOf];omega⟩
             ·have i:CU AI (s.data.toList.drop q)=0:=Sl AI s q n;clear r;have K:=Ao (show CU AI (s.data.toList.drop (p+1))=q-(p+1) by rw[C.out,i];omega);have a:s.extract p q=(⟨118,(s.data.toList.drop p).take (q-(p+1)+1),p⟩:Pc).w:=by have:=Eg s p (q-p);rw[show p+(q-p)=q by omega]at this;rw[this,show q-p=q-(p+1)+1 by omega];rfl
              have R:=Ao a;clear a i;by_cases q1:12<q-p
              ·have P:=Ao (I3 HL.out d (by rw[b.out,K.out,Ai (by omega)]));clear b HL K C;go_wp2_with (first|(fail)|(at_builtin;refine AF _ rfl _ _ 122 rfl w.heap.size 189 I _ 3 32 underlying122 Q J Z Y rfl (by decide) _ acc.length (acc.flatMap Pc.cells) rfl (hR.alloc _) ⟨wr.heap.size,0,none⟩ 1 [.int .u8 118,.string (s.extract p q),.int .i64 (p:Nat)] rfl rfl (AS _ _ _) (by intro u x;simp at x;rcases x with rfl|rfl|rfl<;>rfl) (by unfold maxLen;omega) (by omega) (by simp;omega) ?_;intro g c w2 t v));go_ret2;exact⟨.inr ⟨P.out,rfl⟩,(G.alloc (by omega) _).grown v (by simp;omega) (A9 hR)⟩
              ·have U:=Ao (Kv HL.out d (k:=q-(p+1)) (mk:=118) (by rw[b.out,K.out,Af (by omega)]));rw[show p+(q-(p+1)+1)=q by omega]at U;clear b HL K C;go_wp2_with (first|(fail)|(at_builtin;refine AF _ rfl _ _ 122 rfl w.heap.size 189 I _ 3 32 underlying122 Q J Z Y rfl (by decide) _ acc.length (acc.flatMap Pc.cells) rfl (hR.alloc _) ⟨wr.heap.size,0,none⟩ 1 [.int .u8 118,.string (s.extract p q),.int .i64 (p:Nat)] rfl rfl (AS _ _ _) (by intro u x;simp at x;rcases x with rfl|rfl|rfl<;>rfl) (by unfold maxLen;omega) (by omega) (by simp;omega) ?_;intro g c w2 t v));exact⟨⟨q,_,A,by go_num,Fk.more t (by rw[R.out];rfl),by simp;omega,U,(G.alloc (by omega) _).grown v (by simp;omega) (A9 hR)⟩,by simp[intOf];omega⟩
      ·have N:97<=(s[p].toNat:Int)/\(s[p].toNat:Int)<=122:=by unfold small at hsm;simpa using hsm
       obtain⟨N,q3⟩:=N;have E:Lm p s[p] (s.data.toList.drop (p+1))=if 12<CU Ax (s.data.toList.drop (p+1))+1 then none else some ([⟨110,(s.data.toList.drop p).take (CU Ax (s.data.toList.drop (p+1))+1),p⟩],CU Ax (s.data.toList.drop (p+1))+1):=by unfold Lm;rw[Af (by simp[hb]),Af (by simp[hsg]),Af (by simp[f]),Ai hsm,<-DW s p d]
       have b:=Ao E;clear hb hsg f hsm E;go_wp2_with fail;refine(V.out _).mono ?_;rintro e y ⟨rfl,z⟩;subst y;go_wp2_with fail
       go_loopw [5] (fun O wq=>∃(q:Nat),p+1<=q/\q<=s.size/\O=.int .i64 q/\Hid (CU Ax (s.data.toList.drop (p+1))=(q-(p+1))+CU Ax (s.data.toList.drop q))/\wq=wr) (fun O _=>s.size-(intOf O).toNat)
       case atStart=>exact⟨p+1,by omega,by omega,by go_num,by show _=_;omega,rfl⟩
       case round=>
        obtain⟨q,q8,A,rfl,C,rfl⟩:=hrel;by_cases r:q<s.size/\Ax (hd (s.data.toList.drop q))=true
        ·obtain⟨r,j⟩:=r;rw[Qr s q r]at j;have H:Hid (CU Ax (s.data.toList.drop (p+1))=(q+1-(p+1))+CU Ax (s.data.toList.drop (q+1))):=by show _=_;rw[C.out,Kj Ax s q r,Ai j];omega
         go_wp2_with (go_at_call 98;refine(H3 _ _).mono ?_;rintro e y ⟨m,z⟩;subst y;rw[j]at m;subst m);exact⟨⟨q+1,by omega,by omega,by go_num,H,trivial⟩,by simp[intOf];omega⟩
        ·by_cases n:q<s.size
         ·have j:Ax (s[q].toNat:Int)=false:=by rw[<-Qr s q n,<-DA];exact fun h=>r ⟨n,h⟩
          have i:CU Ax (s.data.toList.drop q)=0:=by rw[Kj Ax s q n,j,Af (by simp)]
          clear r;have K:=Ao (show CU Ax (s.data.toList.drop (p+1))=q-(p+1) by rw[C.out,i];omega);have a:s.extract p q=(⟨110,(s.data.toList.drop p).take (q-(p+1)+1),p⟩:Pc).w:=by have:=Eg s p (q-p);rw[show p+(q-p)=q by omega]at this;rw[this,show q-p=q-(p+1)+1 by omega];rfl
          have R:=Ao a;clear a i;by_cases q1:12<q-p
          ·have P:=Ao (I3 HL.out d (by rw[b.out,K.out,Ai (by omega)]));clear b HL K C;go_wp2_with (first|(go_at_call 98;refine(H3 _ _).mono ?_;rintro e y ⟨m,z⟩;subst y;rw[j]at m;subst m)|(at_builtin;refine AF _ rfl _ _ 122 rfl w.heap.size 189 I _ 3 32 underlying122 Q J Z Y rfl (by decide) _ acc.length (acc.flatMap Pc.cells) rfl (hR.alloc _) ⟨wr.heap.size,0,none⟩ 1 [.int .u8 110,.string (s.extract p q),.int .i64 (p:Nat)] rfl rfl (AS _ _ _) (by intro u x;simp at x;rcases x with rfl|rfl|rfl<;>rfl) (by unfold maxLen;omega) (by omega) (by simp;omega) ?_;intro g c w2 t v));go_ret2;exact⟨.inr ⟨P.out,rfl⟩,(G.alloc (by omega) _).grown v (by simp;omega) (A9 hR)⟩
          ·have U:=Ao (Kv HL.out d (k:=q-(p+1)) (mk:=110) (by rw[b.out,K.out,Af (by omega)]));rw[show p+(q-(p+1)+1)=q by omega]at U;clear b HL K C;go_wp2_with (first|(go_at_call 98;refine(H3 _ _).mono ?_;rintro e y ⟨m,z⟩;subst y;rw[j]at m;subst m)|(at_builtin;refine AF _ rfl _ _ 122 rfl w.heap.size 189 I _ 3 32 underlying122 Q J Z Y rfl (by decide) _ acc.length (acc.flatMap Pc.cells) rfl (hR.alloc _) ⟨wr.heap.size,0,none⟩ 1 [.int .u8 110,.string (s.extract p q),.int .i64 (p:Nat)] rfl rfl (AS _ _ _) (by intro u x;simp at x;rcases x with rfl|rfl|rfl<;>rfl) (by unfold maxLen;omega) (by omega) (by simp;omega) ?_;intro g c w2 t v));exact⟨⟨q,_,A,by go_num,Fk.more t (by rw[R.out];rfl),by simp;omega,U,(G.alloc (by omega) _).grown v (by simp;omega) (A9 hR)⟩,by simp[intOf];omega⟩
         ·have i:CU Ax (s.data.toList.drop q)=0:=Sl Ax s q n;clear r;have K:=Ao (show CU Ax (s.data.toList.drop (p+1))=q-(p+1) by rw[C.out,i];omega);have a:s.extract p q=(⟨110,(s.data.toList.drop p).take (q-(p+1)+1),p⟩:Pc).w:=by have:=Eg s p (q-p);rw[show p+(q-p)=q by omega]at this;rw[this,show q-p=q-(p+1)+1 by omega];rfl
          have R:=Ao a;clear a i;by_cases q1:12<q-p
          ·have P:=Ao (I3 HL.out d (by rw[b.out,K.out,Ai (by omega)]));clear b HL K C;go_wp2_with (first|(fail)|(at_builtin;refine AF _ rfl _ _ 122 rfl w.heap.size 189 I _ 3 32 underlying122 Q J Z Y rfl (by decide) _ acc.length (acc.flatMap Pc.cells) rfl (hR.alloc _) ⟨wr.heap.size,0,none⟩ 1 [.int .u8 110,.string (s.extract p q),.int .i64 (p:Nat)] rfl rfl (AS _ _ _) (by intro u x;simp at x;rcases x with rfl|rfl|rfl<;>rfl) (by unfold maxLen;omega) (by omega) (by simp;omega) ?_;intro g c w2 t v));go_ret2;exact⟨.inr ⟨P.out,rfl⟩,(G.alloc (by omega) _).grown v (by simp;omega) (A9 hR)⟩
          ·have U:=Ao (Kv HL.out d (k:=q-(p+1)) (mk:=110) (by rw[b.out,K.out,Af (by omega)]));rw[show p+(q-(p+1)+1)=q by omega]at U;clear b HL K C;go_wp2_with (first|(fail)|(at_builtin;refine AF _ rfl _ _ 122 rfl w.heap.size 189 I _ 3 32 underlying122 Q J Z Y rfl (by decide) _ acc.length (acc.flatMap Pc.cells) rfl (hR.alloc _) ⟨wr.heap.size,0,none⟩ 1 [.int .u8 110,.string (s.extract p q),.int .i64 (p:Nat)] rfl rfl (AS _ _ _) (by intro u x;simp at x;rcases x with rfl|rfl|rfl<;>rfl) (by unfold maxLen;omega) (by omega) (by simp;omega) ?_;intro g c w2 t v));exact⟨⟨q,_,A,by go_num,Fk.more t (by rw[R.out];rfl),by simp;omega,U,(G.alloc (by omega) _).grown v (by simp;omega) (A9 hR)⟩,by simp[intOf];omega⟩
    ·have U:=Ao (XU HL.out d hb hsg);have V:Hid (∀W:World,Calls prog 97 #[.int .u8 (s[p].toNat:Int)] W fun e w'=>e=.returned (.bool true)/\w'=W):=by intro W;have:=Wu (s[p].toNat:Int) W;rw[hsg]at this;exact this
     clear hb hsg HL;go_wp2_with fail;refine(V.out _).mono ?_;rintro e y ⟨rfl,z⟩;subst y;go_wp2_with (at_builtin;refine AF _ rfl _ _ 122 rfl w.heap.size 189 I _ 3 32 underlying122 Q J Z Y rfl (by decide) _ acc.length (acc.flatMap Pc.cells) rfl (hR.alloc _) ⟨wr.heap.size,0,none⟩ 1 [.int .u8 (s[p].toNat:Int),.string ⟨#[]⟩,.int .i64 (p:Nat)] rfl rfl (AS _ _ _) (by intro u x;simp at x;rcases x with rfl|rfl|rfl<;>rfl) (by unfold maxLen;omega) (by omega) (by simp;omega) ?_;intro g c w2 t v);exact⟨⟨p+1,acc++[⟨s[p],[],p⟩],by omega,by go_num,Fk.more t rfl,by simp;omega,U,(G.alloc (by omega) _).grown v (by simp;omega) (A9 hR)⟩,by simp[intOf];omega⟩
  ·have q7:p=s.size:=by omega
   have P:Hid (T s.size s.data.toList=some acc):=by show _=_;have h:=HL.out;unfold FJ at h;rw[q7,Ie s s.size (by omega),Uo]at h;rw[<-h];simp
   clear q7 HL;go_wp2_with fail;go_ret2;exact⟨.inl ⟨acc,_,P.out,rfl,hR,by omega⟩,G⟩
def RT.w(t:RT):ByteArray:=bs t.s
def RT.cells(t:RT):List Value:=[.string t.w,.bool t.var,.int .i64 (t.pl:Nat)]
theorem Oj:(prog.info? 130).map (fun i=>(i.zero,i.size,i.bytes))=some (some (.agg #[.string ⟨#[]⟩,.bool false,.int .i64 0]),3,32):=by kernel_rfl
def Fj(w:World)(base:Nat)(ao:Option Addr)(cap:Nat)(ps:List Pc):Prop:=w.ownsRow base 189 3 (.slice ao ps.length cap) ps.length (ps.flatMap Pc.cells)
theorem DN{w:World}{base:Nat}{ao:Option Addr}{cap:Nat}{ps:List Pc}(h:Fj w base ao cap ps)(i:Nat)(j:i<ps.length):
 ∃g,ao=some ⟨g,0,none⟩/\g<w.heap.size/\w.cell? ⟨g,i*3,none⟩=some (.int .u8 ps[i].m)/\w.cell? ⟨g,i*3+1,none⟩=some (.string ps[i].w)/\w.cell? ⟨g,i*3+2,none⟩=some (.int .i64 (ps[i].pl:Nat)):=by
 have q:=h;unfold Fj at q;rw[J5]at q;obtain⟨g,rfl,hb,hc⟩:=E8 q (by intro r z;simp at z;obtain⟨a,_,rfl⟩:=z;rfl) (by simp) i j;have e:(ps.map Pc.cells).getD i []=ps[i].cells:=by simp[j]
 rw[e]at hc;exact⟨g,rfl,(q.lt g rfl).2,hc 0 (by decide),hc 1 (by decide),hc 2 (by decide)⟩
theorem Fj.below{w w':World}{base:Nat}{ao:Option Addr}{cap:Nat}{ps:List Pc}(h:Fj w base ao cap ps)(hb:Below w.heap.size w w'):Fj w' base ao cap ps:=Ah h hb
def RA.w(a:RA):ByteArray:=bs a.name
def BY(w:World)(base:Nat)(a:RA)(cs:List Value):Prop:=∃tv,cs=[.string a.w,tv,.int .i64 (a.pl:Nat),.int .i64 (a.af:Nat),.bool a.neg]/\w.ownsRow base 130 3 tv a.ts.length (a.ts.flatMap RT.cells)
def L3:List Value:=[.string ⟨#[]⟩,.slice none 0 0,.int .i64 0,.int .i64 0,.bool false]
def YS(cs:List Value):Prop:=∃(nm:ByteArray) (k:Option Addr) (y q:Nat) (pl j:Int) (z:Bool),cs=[.string nm,.slice k y q,.int .i64 pl,.int .i64 j,.bool z]
theorem BY.fa{w:World}{base:Nat}{a:RA}{cs:List Value}(h:BY w base a cs):YS cs:=by obtain⟨tv,rfl,q⟩:=h;obtain⟨tq,q0,rfl⟩:=Au q;exact⟨_,_,_,_,_,_,_,rfl⟩
def GZ(w:World)(ps:List Pc)(i:Nat)(e:Ending)(w':World):Prop:=
 ∃(cs:List Value) (q:Int) (ok:Bool),e=.returned (.tuple #[.agg cs.toArray,.int .i64 q,.bool ok])/\YS cs/\Below w.heap.size w w'/\
  match BF (ps.drop i) with
  |none=>ok=false
  |some (a,r)=>ok=true/\BY w' w.heap.size a cs/\∃k:Nat,q=(k:Nat)/\r=ps.drop k/\k<=ps.length
theorem DJ(p:Pc)(m:UInt8)(q:Int)(hi:(m.toNat:Int)=q)(h:(p.mark==m)=false):(p.m==q)=false:=by rw[Az]at h⊢;intro e;exact h (UInt8.toNat_inj.1 (by unfold Pc.m at e;omega))
theorem Dp(p:Pc)(m:UInt8)(q:Int)(j:(m.toNat:Int)=q)(h:(p.mark==m)=true):(p.m==q)=true:=by rw[Co]at h⊢;unfold Pc.m;rw[h,j]
theorem Ke(p:Pc)(r:List Pc)(h:(p.mark==33)=false):BF (p::r)=C7 false 0 (p::r):=by rw[BF,Af (by rw[h];simp)]
theorem OH(neg:Bool)(bang:Nat)(p:Pc)(r:List Pc)(h:(p.mark==110)=false):C7 neg bang (p::r)=none:=by cases r<;>simp[C7,h]
theorem Mx(neg:Bool)(bang:Nat)(p:Pc)(h:(p.mark==110)=true):C7 neg bang [p]=some (⟨p.s,[],p.pl,bang,neg⟩,[]):=by rw[C7,Ai h]
theorem K6(neg:Bool)(bang:Nat)(p q:Pc)(r:List Pc)(h:(p.mark==110)=true)(h2:(q.mark==40)=false):C7 neg bang (p::q::r)=some (⟨p.s,[],p.pl,bang,neg⟩,q::r):=by rw[C7,Ai h];simp[h2]
theorem K5(neg:Bool)(bang:Nat)(p q:Pc)(r:List Pc)(h:(p.mark==110)=true)(h2:(q.mark==40)=true):C7 neg bang (p::q::r)=(BU [] r).bind (Dj fun ts j=>some (⟨p.s,ts,p.pl,bang,neg⟩,j)):=by rw[C7,Ai h];simp only[h2,Bk]
theorem Ea{w w':World}{ps:List Pc}{i:Nat}{cs:List Value}{q:Int}(j:Below w.heap.size w w')(h:BF (ps.drop i)=none)(hF:YS cs:=by exact⟨_,_,_,_,_,_,_,rfl⟩):GZ w ps i (.returned (.tuple #[.agg cs.toArray,.int .i64 q,.bool false])) w':=⟨cs,q,false,rfl,hF,j,by rw[h]⟩
theorem Hs{w w':World}{ps:List Pc}{i k:Nat}{cs:List Value}{a:RA}(j:Below w.heap.size w w')(h:BF (ps.drop i)=some (a,ps.drop k))(z:k<=ps.length)(q:BY w' w.heap.size a cs):GZ w ps i (.returned (.tuple #[.agg cs.toArray,.int .i64 (k:Nat),.bool true])) w':=⟨cs,_,true,rfl,q.fa,j,by rw[h];exact⟨rfl,q,k,rfl,rfl,z⟩⟩
def I1(ps:List Pc)(acc:List RT)(q:Nat):Option (List RT×List Pc):=
 if(acc.isEmpty||DP 44 (fun _=>some true) (fun _=>some false) (ps.drop q)==some true)=true then BU acc (ps.drop (q+1)) else some (acc,ps.drop q)
theorem OR(w:World)(base:Nat)(ao:Option Addr)(cap:Nat)(ps:List Pc)(J:Fj w base ao cap ps)(hn:ps.length<=3000)(i:Nat)(hi:i<=ps.length)(hb:∀p r,ps.drop i=p::r->(p.mark==33)=false)(hs:∀p q r,ps.drop i=p::q::r->(p.mark==110)=true->(q.mark==40)=false):
 Calls prog 100 #[.slice ao ps.length cap,.int .i64 (i:Nat)] w fun e w'=>GZ w ps i e w':=by
 by_cases Q:i<ps.length
 ·obtain⟨g,rfl,hg,p0,p1,p2⟩:=DN J i Q;have q3:g<w.heap.size+1:=by omega
  have y:ps.drop i=ps[i]::ps.drop (i+1):=Aa Q;have f:=hb _ _ y;have q2:=DJ _ 33 33 rfl f;have a:=Ao (show BF (ps.drop i)=C7 false 0 (ps.drop i) by rw[y,Ke _ _ f]);clear hb y f;by_cases l:i<ps.length
  ·obtain⟨g',u,Z,n0,n1,n2⟩:=DN J (i) l;simp only[Al,BM,Dx]at u;subst u;have z:ps.drop (i)=ps[i]::ps.drop (i+1):=Aa l;cases h110:(ps[i].mark==110)
   ·have t:=Ao (show BF (ps.drop i)=none by rw[a.out,z,OH _ _ _ _ h110]);have j:=DJ _ 110 110 rfl h110;have n:(ps[i].m != 110)=true:=by rw[bne,j];rfl
    have c:¬ps[i].m=110:=by simpa using j
    clear z h110 a hs;go_enter func100,ntmps100;go_wp2_with fail;exact Aq (v:=.tuple #[.agg #[.string ⟨#[]⟩,.slice none 0 0,.int .i64 0,.int .i64 0,.bool false],.int .i64 (i:Nat),.bool false]) (by simp[results,results100,go_sem]) rfl (Ea (cs:=[.string ⟨#[]⟩,.slice none 0 0,.int .i64 0,.int .i64 0,.bool false]) (((Ag _ w).alloc (Ab _) _).alloc (by simp) _) t.out)
   ·have j:=Dp _ 110 110 rfl h110;have c:ps[i].m=110:=by simpa using j
    have n:(ps[i].m != 110)=false:=by rw[bne,j];rfl
    by_cases d:i+1<ps.length
    ·obtain⟨g',u,Z,o0,o1,o2⟩:=DN J (i+1) d;simp only[Al,BM,Dx]at u;subst u;have k:ps.drop (i+1)=ps[i+1]::ps.drop (i+2):=Aa d;have x:=hs _ _ _ (by rw[z,k]) h110;have t:=Ao (show BF (ps.drop i)=some (⟨ps[i].s,[],ps[i].pl,0,false⟩,ps.drop (i+1)) by rw[a.out,z,k,K6 _ _ _ _ _ h110 x]);have b:=DJ _ 40 40 rfl x;have q1:(ps[i+1].m != 40)=true:=by rw[bne,b];rfl
     have q0:¬ps[i+1].m=40:=by simpa using b
     clear z k h110 a x hs;go_enter func100,ntmps100;go_wp2_with fail;exact Aq (v:=.tuple #[.agg #[.string ps[i].w,.slice none 0 0,.int .i64 (ps[i].pl:Nat),.int .i64 0,.bool false],.int .i64 (i+1:Nat),.bool true]) (by simp[results,results100,go_sem]) rfl (Hs (cs:=[.string ps[i].w,.slice none 0 0,.int .i64 (ps[i].pl:Nat),.int .i64 0,.bool false]) (((Ag _ w).alloc (Ab _) _).alloc (by simp) _) t.out (by omega) ⟨_,rfl,Ak _ _ _ _⟩)
    ·have o:ps.drop (i+1)=[]:=AA (by omega);have t:=Ao (show BF (ps.drop i)=some (⟨ps[i].s,[],ps[i].pl,0,false⟩,ps.drop (i+1)) by rw[a.out,z,o,Mx _ _ _ h110]);clear z o h110 a hs;go_enter func100,ntmps100;go_wp2_with fail;exact Aq (v:=.tuple #[.agg #[.string ps[i].w,.slice none 0 0,.int .i64 (ps[i].pl:Nat),.int .i64 0,.bool false],.int .i64 (i+1:Nat),.bool true]) (by simp[results,results100,go_sem]) rfl (Hs (cs:=[.string ps[i].w,.slice none 0 0,.int .i64 (ps[i].pl:Nat),.int .i64 0,.bool false]) (((Ag _ w).alloc (Ab _) _).alloc (by simp) _) t.out (by omega) ⟨_,rfl,Ak _ _ _ _⟩)
  ·omega
 ·have t:=Ao (show BF (ps.drop i)=none by rw[AA (by omega)];rfl);clear hb hs;go_enter func100,ntmps100;go_wp2_with fail;exact Aq (v:=.tuple #[.agg #[.string ⟨#[]⟩,.slice none 0 0,.int .i64 0,.int .i64 0,.bool false],.int .i64 (i:Nat),.bool false]) (by simp[results,results100,go_sem]) rfl (Ea (cs:=[.string ⟨#[]⟩,.slice none 0 0,.int .i64 0,.int .i64 0,.bool false]) (((Ag _ w).alloc (Ab _) _).alloc (by simp) _) t.out)
theorem Ub(w:World)(base:Nat)(g cap:Nat)(ps:List Pc)(Q:Fj w base (some ⟨g,0,none⟩) cap ps)(hn:ps.length<=3000)(i:Nat)(l:i<ps.length)(hb:(ps[i].mark==33)=true)(hs:∀p q r,ps.drop (i+1)=p::q::r->(p.mark==110)=true->(q.mark==40)=false):
 Calls prog 100 #[.slice (some ⟨g,0,none⟩) ps.length cap,.int .i64 (i:Nat)] w fun e w'=>GZ w ps i e w':=by
 obtain⟨g',z,hg,p0,p1,p2⟩:=DN Q i l;simp only[Al,BM,Dx]at z;subst z;have q3:g<w.heap.size+1:=by omega
 have u:ps.drop i=ps[i]::ps.drop (i+1):=Aa l;have q2:=Dp _ 33 33 rfl hb;have b:=Ao (show BF (ps.drop i)=C7 true ps[i].pl (ps.drop (i+1)) by rw[u,BF,Ai hb]);clear hb u;by_cases o:i+1<ps.length
 ·obtain⟨g',z,J,n0,n1,n2⟩:=DN Q (i+1) o;simp only[Al,BM,Dx]at z;subst z;have y:ps.drop (i+1)=ps[i+1]::ps.drop (i+1+1):=Aa o;cases h110:(ps[i+1].mark==110)
  ·have c:=Ao (show BF (ps.drop i)=none by rw[b.out,y,OH _ _ _ _ h110]);have j:=DJ _ 110 110 rfl h110;have x:(ps[i+1].m != 110)=true:=by rw[bne,j];rfl
   have n:¬ps[i+1].m=110:=by simpa using j
   clear y h110 b hs;go_enter func100,ntmps100;go_wp2_with fail;exact Aq (v:=.tuple #[.agg #[.string ⟨#[]⟩,.slice none 0 0,.int .i64 0,.int .i64 (ps[i].pl:Nat),.bool true],.int .i64 (i+1:Nat),.bool false]) (by simp[results,results100,go_sem]) rfl (Ea (cs:=[.string ⟨#[]⟩,.slice none 0 0,.int .i64 0,.int .i64 (ps[i].pl:Nat),.bool true]) (((Ag _ w).alloc (Ab _) _).alloc (by simp) _) c.out)
  ·have j:=Dp _ 110 110 rfl h110;have n:ps[i+1].m=110:=by simpa using j
   have x:(ps[i+1].m != 110)=false:=by rw[bne,j];rfl
   by_cases t:i+1+1<ps.length
   ·obtain⟨g',z,J,o0,o1,o2⟩:=DN Q (i+1+1) t;simp only[Al,BM,Dx]at z;subst z;have k:ps.drop (i+1+1)=ps[i+1+1]::ps.drop (i+1+2):=Aa t;have f:=hs _ _ _ (by rw[y,k]) h110;have c:=Ao (show BF (ps.drop i)=some (⟨ps[i+1].s,[],ps[i+1].pl,(ps[i].pl:Nat),true⟩,ps.drop (i+1+1)) by rw[b.out,y,k,K6 _ _ _ _ _ h110 f]);have d:=DJ _ 40 40 rfl f;have q1:(ps[i+1+1].m != 40)=true:=by rw[bne,d];rfl
    have q0:¬ps[i+1+1].m=40:=by simpa using d
    clear y k h110 b f hs;go_enter func100,ntmps100;go_wp2_with fail;exact Aq (v:=.tuple #[.agg #[.string ps[i+1].w,.slice none 0 0,.int .i64 (ps[i+1].pl:Nat),.int .i64 (ps[i].pl:Nat),.bool true],.int .i64 (i+1+1:Nat),.bool true]) (by simp[results,results100,go_sem]) rfl (Hs (cs:=[.string ps[i+1].w,.slice none 0 0,.int .i64 (ps[i+1].pl:Nat),.int .i64 (ps[i].pl:Nat),.bool true]) (((Ag _ w).alloc (Ab _) _).alloc (by simp) _) c.out (by omega) ⟨_,rfl,Ak _ _ _ _⟩)
   ·have a:ps.drop (i+1+1)=[]:=AA (by omega);have c:=Ao (show BF (ps.drop i)=some (⟨ps[i+1].s,[],ps[i+1].pl,(ps[i].pl:Nat),true⟩,ps.drop (i+1+1)) by rw[b.out,y,a,Mx _ _ _ h110]);clear y a h110 b hs;go_enter func100,ntmps100;go_wp2_with fail;exact Aq (v:=.tuple #[.agg #[.string ps[i+1].w,.slice none 0 0,.int .i64 (ps[i+1].pl:Nat),.int .i64 (ps[i].pl:Nat),.bool true],.int .i64 (i+1+1:Nat),.bool true]) (by simp[results,results100,go_sem]) rfl (Hs (cs:=[.string ps[i+1].w,.slice none 0 0,.int .i64 (ps[i+1].pl:Nat),.int .i64 (ps[i].pl:Nat),.bool true]) (((Ag _ w).alloc (Ab _) _).alloc (by simp) _) c.out (by omega) ⟨_,rfl,Ak _ _ _ _⟩)
 ·have c:=Ao (show BF (ps.drop i)=none by rw[b.out,AA (by omega)];rfl);clear hs b;go_enter func100,ntmps100;go_wp2_with fail;exact Aq (v:=.tuple #[.agg #[.string ⟨#[]⟩,.slice none 0 0,.int .i64 0,.int .i64 (ps[i].pl:Nat),.bool true],.int .i64 (i+1:Nat),.bool false]) (by simp[results,results100,go_sem]) rfl (Ea (cs:=[.string ⟨#[]⟩,.slice none 0 0,.int .i64 0,.int .i64 (ps[i].pl:Nat),.bool true]) (((Ag _ w).alloc (Ab _) _).alloc (by simp) _) c.out)
theorem Oa(ps:List Pc)(acc:List RT)(q:Nat)(h:acc=[]\/∃hq:q<ps.length,(ps[q].mark==44)=true):I1 ps acc q=BU acc (ps.drop (q+1)):=by
 unfold I1;rcases h with rfl|⟨hq,h⟩
 ·simp
 ·rw[Ai];rw[Aa hq,DP,Ai h];simp
theorem N8(ps:List Pc)(acc:List RT)(q:Nat)(j:acc≠[])(h:∀hq:q<ps.length,(ps[q].mark==44)=false):I1 ps acc q=some (acc,ps.drop q):=by
 unfold I1;rw[Af]
 have h1:acc.isEmpty=false:=by cases acc with
  |nil=>exact absurd rfl j
  |cons a b=>rfl
 rw[h1,CJ];by_cases hq:q<ps.length
 ·rw[Aa hq,DP,Af (by rw[h hq];simp)];decide
 ·rw[AA (by omega),DP];decide
theorem N9(ps:List Pc)(acc:List RT)(q:Nat)(hq:q+1<ps.length)(j:Ei ps[q+1]=true):BU acc (ps.drop (q+1))=I1 ps (acc++[ps[q+1].rt]) (q+2):=by
 rw[Aa hq];by_cases h2:q+2<ps.length
 ·rw[Aa h2];cases h44:(ps[q+2].mark==44)
  ·rw[N8 ps _ (q+2) (by simp) (fun _=>h44),Aa h2];simp[BU,j,h44]
  ·rw[Oa ps _ (q+2) (.inr ⟨h2,h44⟩)];simp[BU,j,h44]
 ·rw[N8 ps _ (q+2) (by simp) (fun h=>absurd h h2),AA (by omega)];simp[BU,j]
theorem Xc(acc:List RT)(p:Pc)(r:List Pc)(h:Ei p=false):BU acc (p::r)=none:=by cases r<;>simp[BU,h]
theorem F5{A:Type}(K:List RT->List Pc->Option A)(ts:List RT)(c:Pc)(r:List Pc):Dj K (ts,c::r)=if(c.mark==41&&decide (ts.length<=3))=true then K ts r else none:=rfl
theorem Nb{w:World}{base g cap:Nat}{acc:List RT}{t:RT}{cs:List Value}(h:w.ownsRow base 130 3 (.slice (some ⟨g,0,none⟩) (acc.length+1) cap) (acc.length+1) (acc.flatMap RT.cells++cs))(hc:t.cells=cs):w.ownsRow base 130 3 (.slice (some ⟨g,0,none⟩) (acc.length+1) cap) (acc++[t]).length ((acc++[t]).flatMap RT.cells):=by rw[Am,List.length_singleton,BG,Ca,hc];exact h
def Vt(ps:List Pc)(acc:List RT)(q:Nat):Bool:=acc.isEmpty||DP 44 (fun _=>some true) (fun _=>some false) (ps.drop q)==some true
def KP(ps:List Pc)(k:Nat):Bool:= !(Hx (fun _ _=>some true) (ps.drop k)==some true)
theorem gL(ps:List Pc)(q:Nat):Vt ps [] q=true:=rfl
theorem ZL{acc:List RT}(h:acc≠[]):acc.isEmpty=false:=by cases acc with
 |nil=>exact absurd rfl h
 |cons a b=>rfl
theorem aP(ps:List Pc)(acc:List RT)(q:Nat)(j:acc≠[])(hq:q<ps.length):Vt ps acc q=(ps[q].mark==44):=by unfold Vt;rw[ZL j,CJ,Aa hq,DP];cases h:(ps[q].mark==44)<;>simp
theorem WE(ps:List Pc)(acc:List RT)(q:Nat)(j:acc≠[])(hq:¬q<ps.length):Vt ps acc q=false:=by unfold Vt;rw[ZL j,CJ,AA (by omega),DP];decide
theorem aO(ps:List Pc)(acc:List RT)(q:Nat)(h:Vt ps acc q=true):I1 ps acc q=BU acc (ps.drop (q+1)):=by unfold I1;exact Ai h
theorem aM(ps:List Pc)(acc:List RT)(q:Nat)(h:Vt ps acc q=false):I1 ps acc q=some (acc,ps.drop q):=by unfold I1;rw[Af (by rw[show(acc.isEmpty||DP 44 (fun _=>some true) (fun _=>some false) (ps.drop q)==some true)=Vt ps acc q from rfl,h];simp)]
theorem aN(ps:List Pc)(acc:List RT)(q:Nat)(h:Vt ps acc q=false):acc≠[]:=by rintro rfl;rw[gL]at h;exact absurd h (by simp)
theorem Ls(ps:List Pc)(k:Nat)(q:k<ps.length):KP ps k= !Ei ps[k]:=by unfold KP;rw[Aa q,Hx];cases h:Ei ps[k]<;>simp
theorem Mc(ps:List Pc)(k:Nat)(hk:¬k<ps.length):KP ps k=true:=by unfold KP;rw[AA (by omega),Hx];decide
theorem PU(ps:List Pc)(k:Nat)(acc:List RT)(h:KP ps k=true):BU acc (ps.drop k)=none:=by
 by_cases q:k<ps.length
 ·rw[Ls ps k q]at h;rw[Aa q];exact Xc _ _ _ (by simpa using h)
 ·rw[AA (by omega),BU]
theorem PV(ps:List Pc)(k:Nat)(h:KP ps k=false):∃q:k<ps.length,Ei ps[k]=true:=by
 by_cases q:k<ps.length
 ·refine⟨q,?_⟩;rw[Ls ps k q]at h;simpa using h
 ·rw[Mc ps k q]at h;exact absurd h (by simp)
theorem fF(p:Pc)(m:UInt8)(q:Int)(j:(m.toNat:Int)=q):(p.m==q)=(p.mark==m):=by
 cases h:(p.mark==m)
 ·exact DJ p m q j h
 ·exact Dp p m q j h
theorem IV(q:Nat)(h:q<=3000):IntKind.i64.wrap ((q:Int)+1)=(q:Int)+1:=by simp[IntKind.wrap,IntKind.bits,IntKind.signed];omega
theorem SM(p:Pc):p.rt.cells=[.string p.w,.bool (p.m==118),.int .i64 (p.pl:Nat)]:=by unfold Pc.rt RT.cells;rw[fF p 118 118 rfl];rfl
end
section
abbrev kI:Go.Conc.Locks.MuLink:={ lock:=147,unlock:=148,ilock:=172,iunlock:=173,lockSlow:=195,unlockSlow:=197,disable:=121,enable:=123,acquire:=124,relMerge:=156,cas32:=194,add32:=196,tMutex:=208,tIMutex:=206,tPMutex:=287,tPIMutex:=307,tPI32:=309,tUP:=238,tNoCopy:=160,tU32:=166 }
theorem jF:Go.Conc.Locks.MuLib prog kI:=
 ⟨func147,func148,func172,func173,func121,func123,func124,func156,func194,func196,underlying206,Tryz.runUnderlying206,Tryz.sizeOf206,Tryz.isAgg206,Tryz.zeroValue206,underlying208,Tryz.runUnderlying208,Tryz.sizeOf208,Tryz.isAgg208,Tryz.zeroValue208,underlying287,Tryz.runUnderlying287,Tryz.sizeOf287,Tryz.isAgg287,Tryz.zeroValue287,underlying307,Tryz.runUnderlying307,Tryz.sizeOf307,Tryz.isAgg307,Tryz.zeroValue307,underlying309,Tryz.runUnderlying309,Tryz.sizeOf309,Tryz.isAgg309,Tryz.zeroValue309,underlying238,Tryz.runUnderlying238,Tryz.sizeOf238,Tryz.isAgg238,Tryz.zeroValue238,underlying160,Tryz.runUnderlying160,Tryz.sizeOf160,Tryz.isAgg160,Tryz.zeroValue160,underlying21,Tryz.runUnderlying21,Tryz.sizeOf21,Tryz.isAgg21,Tryz.zeroValue21,(by kernel_rfl)⟩
theorem Xb(v:Looks){p:Pinned}{s:OpenSpec}{c:OpenClaim}(kinds:List LaidKind)(z:Bool)(q:Bool×String)(k g:Bool)
 (hc:c.holds p s)(i:c.wfByText s=true)(y:c.laidByTextAt v p kinds z)
 (b:c.start=.entering)(u:c.noBlocks=false/\c.again=false)(o:p.checked.prog.mainIs=some (q.1,q.2.toList))(hn:(!q.1&&q.2.isEmpty&& !k)=false)
 (a:∀f d,p.checked.prog.funcNamed c.func=some f->p.checked.prog.funcs[f]? =some d->k=p.checked.prog.looks []/\∀(j:Nat) t,d.params[j]? =some t->p.checked.prog.wantsStandIn t=false)
 (x:g=c.goesBy p.checked.prog):
 Claim7.holds p (.plain s) { stood:={ row:=c,standIns:=[],harness:=q,looks:=k },kinds:=[],alts:=[],goes:=g,laidByText:=true,laidKinds:=kinds,laidTests:=z,laidLooks:=v }:=by
 have m:∀r:OpenClaim,Claim7.isSixth { stood:={ row:=r,standIns:=[],harness:=q,looks:=k },kinds:=[] }=false:=fun r=>by simpa[Claim7.isSixth]using hn
 exact⟨Claim7.tied_new_at v kinds z (Claim7.new_of_sixth hc q k b u o (m c) a) i,(fun D n=>by cases n),y,(fun h=>by cases h),x⟩
end
end Go.Proofs.YtpbfiffgcgnidaaGreatDoor
