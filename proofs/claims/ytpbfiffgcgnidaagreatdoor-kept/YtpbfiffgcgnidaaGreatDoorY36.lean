import Derived.Test.YtpbfiffgcgnidaaGreatDoorYal
import Derived.Test.YtpbfiffgcgnidaaGreatDoorY34
import Derived.Test.YtpbfiffgcgnidaaGreatDoorY35
namespace Go.Proofs.YtpbfiffgcgnidaaGreatDoor
set_option maxRecDepth 100000
set_option maxHeartbeats 4000000
set_option linter.unusedSimpArgs false
open Go.Proofs.Tryz
section
open Go.RowKit Go.WideMaps Go.Maps
structure PR where
 bb:Nat
 rb:Nat
 v:Value
 r:Value
 cs:List RC
 ds:List RC
structure Ur(w:World)(B bb:Nat)(v:Value)(cs:List RC):Prop where
 al:Aw w bb [v] 59
 row:AY w B v (cs.map RC.d)
 bq:E2 cs
 up:B<=bb
structure Se(w:World)(B rb:Nat)(v:Value)(cs:List RC):Prop where
 al:Aw w rb [v] 76
 row:Ck w B v cs
 bq:E2 cs
 up:B<=rb
structure Pd(p q:PR):Prop where
 bb:p.bb≠q.bb
 rb:p.rb≠q.rb
 v:Y5 p.v q.v
 r:Y5 p.r q.r
theorem Pd.symm{p q:PR}(h:Pd p q):Pd q p:=⟨h.bb.symm,h.rb.symm,h.v.symm,h.r.symm⟩
structure GY(w:World)(B:Nat)(ps:List PR):Prop where
 prog:∀(i:Nat) (p:PR),ps[i]? =some p->Ur w B p.bb p.v p.cs
 ref:∀(i:Nat) (p:PR),ps[i]? =some p->Se w B p.rb p.r p.ds
 apart:∀(i j:Nat) (p q:PR),i≠j->ps[i]? =some p->ps[j]? =some q->Pd p q
theorem Kk{w:World}{base:Nat}{e t:TypeId}{size:Nat}{v:Value}{n:Nat}{xs:List Value}(h:w.ownsRow base e size v n xs)(j:e≠t):Df w (fun k=>v.ownBlock=some k) t:=by
 intro k q cur z hc;rcases h.2 with⟨rfl,_⟩|⟨g,cap,q0,rfl,_,y,_⟩
 ·simp[Value.ownBlock]at q
 ·simp only[Value.ownBlock,Al]at q;subst q;rw[y]at hc;simp at hc;exact j hc.2.1
theorem Lq{w:World}{S S':Nat->Prop}{t:TypeId}(h:Df w S t)(q:Df w S' t):Df w (fun k=>S k\/S' k) t:=fun k j=>j.elim (h k) (q k)
theorem En{w:World}{S:Nat->Prop}{t:TypeId}{b:Nat}{cs:List Value}(ht:Df w S t)(h:Aw w b cs t):¬S b:=fun hS=>ht b hS _ _ h
theorem Ur.only{S:Nat->Prop}{w w':World}{B bb:Nat}{v:Value}{cs:List RC}(h:Ur w B bb v cs)(q:A3 S w w')(ht:Df w S 186)(hb:¬S bb)(j:∀k,v.ownBlock=some k->¬S k):Ur w' B bb v cs:=
 ⟨h.al.only q hb,h.row.only q ht j,h.bq,h.up⟩
theorem Se.only{S:Nat->Prop}{w w':World}{B rb:Nat}{v:Value}{cs:List RC}(h:Se w B rb v cs)(q:A3 S w w')(ht:Df w S 130)(j:Df w S 69)(hb:¬S rb)(z:∀k,v.ownBlock=some k->¬S k):Se w' B rb v cs:=
 ⟨h.al.only q hb,h.row.only q ht j z,h.bq,h.up⟩
theorem Ur.other{S:Nat->Prop}{w w':World}{B bb:Nat}{v:Value}{cs:List RC}(h:Ur w B bb v cs)(q:A3 S w w')(h1:Df w S 186)(h2:Df w S 59)(h3:Df w S 86):Ur w' B bb v cs:=by obtain⟨rows,j,_,_⟩:=h.row;exact h.only q h1 (En h2 h.al) (F2 j h3)
theorem Se.other{S:Nat->Prop}{w w':World}{B rb:Nat}{v:Value}{cs:List RC}(h:Se w B rb v cs)(j:A3 S w w')(h1:Df w S 130)(h2:Df w S 69)(h3:Df w S 76)(q:Df w S 71):Se w' B rb v cs:=by obtain⟨rows,z,_,_⟩:=h.row;exact h.only j h1 h2 (En h3 h.al) (F2 z q)
theorem Ur.typed{w:World}{B bb:Nat}{v:Value}{cs:List RC}(h:Ur w B bb v cs)(t:TypeId)(h1:59≠t)(h2:86≠t):Df w (fun k=>k=bb\/v.ownBlock=some k) t:=by obtain⟨rows,q,_,_⟩:=h.row;exact Lq (Gq h.al h1) (Kk q h2)
theorem Se.typed{w:World}{B rb:Nat}{v:Value}{cs:List RC}(h:Se w B rb v cs)(t:TypeId)(h1:76≠t)(h2:71≠t):Df w (fun k=>k=rb\/v.ownBlock=some k) t:=by obtain⟨rows,q,_,_⟩:=h.row;exact Lq (Gq h.al h1) (Kk q h2)
theorem Ur.lt{w:World}{B bb:Nat}{v:Value}{cs:List RC}(h:Ur w B bb v cs):∀k,v.ownBlock=some k->B<=k/\k<w.heap.size:=by obtain⟨rows,j,_,_⟩:=h.row;exact fun k q=>j.lt k q
theorem Se.lt{w:World}{B rb:Nat}{v:Value}{cs:List RC}(h:Se w B rb v cs):∀k,v.ownBlock=some k->B<=k/\k<w.heap.size:=by obtain⟨rows,j,_,_⟩:=h.row;exact fun k q=>j.lt k q
theorem Ur.below{w w':World}{B bb:Nat}{v:Value}{cs:List RC}(h:Ur w B bb v cs)(hb:Below w.heap.size w w'):Ur w' B bb v cs:=⟨h.al.below hb,h.row.below hb,h.bq,h.up⟩
theorem Se.below{w w':World}{B rb:Nat}{v:Value}{cs:List RC}(h:Se w B rb v cs)(hb:Below w.heap.size w w'):Se w' B rb v cs:=⟨h.al.below hb,h.row.below hb,h.bq,h.up⟩
theorem GY.below{w w':World}{B:Nat}{ps:List PR}(h:GY w B ps)(hb:Below w.heap.size w w'):GY w' B ps:=⟨fun i p q=>(h.prog i p q).below hb,fun i p q=>(h.ref i p q).below hb,h.apart⟩
theorem GY.other{S:Nat->Prop}{w w':World}{B:Nat}{ps:List PR}(h:GY w B ps)(j:A3 S w w')(h1:Df w S 186)(h2:Df w S 59)(h3:Df w S 86)(z:Df w S 130)(y:Df w S 69)(k:Df w S 76)(v:Df w S 71):GY w' B ps:=
 ⟨fun i p q=>(h.prog i p q).other j h1 h2 h3,fun i p q=>(h.ref i p q).other j z y k v,h.apart⟩
theorem Qc{w:World}{v v' u:Value}(h:v'.ownBlock=v.ownBlock\/∀k,v'.ownBlock=some k->w.heap.size<=k)(q:Y5 v u)(j:∀k,u.ownBlock=some k->k<w.heap.size):Y5 v' u:=by
 intro k h1 h2;rcases h with h|h
 ·exact q k (h▸h1) h2
 ·have:=h k h1;have:=j k h2;omega
theorem GJ{α:Type}(l:List α)(i j:Nat)(x p:α)(h:(l.set i x)[j]? =some p):(i=j/\p=x)\/(i≠j/\l[j]? =some p):=by
 rw[DM]at h;by_cases q:i=j
 ·subst q;rw[Ai rfl]at h
  split at h
  ·exact .inl ⟨rfl,(Be h).symm⟩
  ·simp at h
 ·rw[Af q]at h;exact .inr ⟨q,h⟩
theorem GY.dz{w w':World}{B:Nat}{ps:List PR}(h:GY w B ps){i:Nat}{x:PR}(c:ps[i]? =some x){r:(Nat×Nat)×List RC}{e:Ending}(hc:GL w B x.bb x.v r e w')(Z:E2 r.2):
 ∃v',GY w' B (ps.set i { x with v:=v',cs:=r.2 }):=by
 obtain⟨_,⟨v',m,o,J⟩,f⟩:=hc;have hx:=h.prog i x c;refine⟨v',⟨?_,?_,?_⟩⟩
 ·intro j p z;rcases GJ _ _ _ _ _ z with⟨rfl,rfl⟩|⟨u,z⟩
  ·exact⟨m,o,Z,hx.up⟩
  ·have a:=h.prog j p z;have g:=h.apart i j x p u c z;obtain⟨rx,Q,_,_⟩:=hx.row;obtain⟨rp,l,_,_⟩:=a.row;refine a.only f (hx.typed _ (by decide) (by decide)) ?_ ?_
   ·rintro(y|y)
    ·exact g.bb y.symm
    ·exact Av Q a.al (by decide) y
   ·rintro k y (rfl|n)
    ·exact Av l hx.al (by decide) y
    ·exact g.v k n y
 ·intro j p z;rcases GJ _ _ _ _ _ z with⟨rfl,rfl⟩|⟨u,z⟩
  ·exact(h.ref _ x c).other f (hx.typed _ (by decide) (by decide)) (hx.typed _ (by decide) (by decide)) (hx.typed _ (by decide) (by decide)) (hx.typed _ (by decide) (by decide))
  ·exact(h.ref j p z).other f (hx.typed _ (by decide) (by decide)) (hx.typed _ (by decide) (by decide)) (hx.typed _ (by decide) (by decide)) (hx.typed _ (by decide) (by decide))
 ·have t:∀j q,i≠j->ps[j]? =some q->Pd { x with v:=v',cs:=r.2 } q:=fun j q u z=>by have g:=h.apart i j x q u c z;exact⟨g.bb,g.rb,Qc J g.v fun k y=>((h.prog j q z).lt k y).2,g.r⟩
  intro j k p q b z y;rcases GJ _ _ _ _ _ z with⟨rfl,rfl⟩|⟨s,z⟩
  ·rcases GJ _ _ _ _ _ y with⟨rfl,rfl⟩|⟨d,y⟩
   ·exact absurd rfl b
   ·exact t k q d y
  ·rcases GJ _ _ _ _ _ y with⟨rfl,rfl⟩|⟨d,y⟩
   ·exact(t j p s z).symm
   ·exact h.apart j k p q b z y
theorem GY.eu{w w':World}{B:Nat}{ps:List PR}(h:GY w B ps){i:Nat}{x:PR}(c:ps[i]? =some x){r:(Nat×Nat)×List RC}{e:Ending}(hc:Gj w B x.rb x.r r e w')(Z:E2 r.2):
 ∃v',GY w' B (ps.set i { x with r:=v',ds:=r.2 }):=by
 obtain⟨_,⟨v',m,o,J⟩,f⟩:=hc;have hx:=h.ref i x c;refine⟨v',⟨?_,?_,?_⟩⟩
 ·intro j p z;rcases GJ _ _ _ _ _ z with⟨rfl,rfl⟩|⟨u,z⟩
  ·exact(h.prog _ x c).other f (hx.typed _ (by decide) (by decide)) (hx.typed _ (by decide) (by decide)) (hx.typed _ (by decide) (by decide))
  ·exact(h.prog j p z).other f (hx.typed _ (by decide) (by decide)) (hx.typed _ (by decide) (by decide)) (hx.typed _ (by decide) (by decide))
 ·intro j p z;rcases GJ _ _ _ _ _ z with⟨rfl,rfl⟩|⟨u,z⟩
  ·exact⟨m,o,Z,hx.up⟩
  ·have a:=h.ref j p z;have g:=h.apart i j x p u c z;obtain⟨rx,Q,_,_⟩:=hx.row;obtain⟨rp,l,_,_⟩:=a.row;refine a.only f (hx.typed _ (by decide) (by decide)) (hx.typed _ (by decide) (by decide)) ?_ ?_
   ·rintro(y|y)
    ·exact g.rb y.symm
    ·exact Av Q a.al (by decide) y
   ·rintro k y (rfl|n)
    ·exact Av l hx.al (by decide) y
    ·exact g.r k n y
 ·have t:∀j q,i≠j->ps[j]? =some q->Pd { x with r:=v',ds:=r.2 } q:=fun j q u z=>by have g:=h.apart i j x q u c z;exact⟨g.bb,g.rb,g.v,Qc J g.r fun k y=>((h.ref j q z).lt k y).2⟩
  intro j k p q b z y;rcases GJ _ _ _ _ _ z with⟨rfl,rfl⟩|⟨s,z⟩
  ·rcases GJ _ _ _ _ _ y with⟨rfl,rfl⟩|⟨d,y⟩
   ·exact absurd rfl b
   ·exact t k q d y
  ·rcases GJ _ _ _ _ _ y with⟨rfl,rfl⟩|⟨d,y⟩
   ·exact(t j p s z).symm
   ·exact h.apart j k p q b z y
theorem GY.more{w:World}{B n0:Nat}{ps:List PR}(h:GY w B ps)(x:PR)(h1:Ur w B x.bb x.v x.cs)(h2:Se w B x.rb x.r x.ds)(hb:n0<=x.bb)(hr:n0<=x.rb)(J:∀k,x.v.ownBlock=some k->n0<=k)(Z:∀k,x.r.ownBlock=some k->n0<=k)
 (f:∀(i:Nat) (p:PR),ps[i]? =some p->p.bb<n0/\p.rb<n0/\(∀k,p.v.ownBlock=some k->k<n0)/\(∀k,p.r.ownBlock=some k->k<n0)):GY w B (ps++[x]):=by
 have look:∀(i:Nat) (p:PR),(ps++[x])[i]? =some p->(ps[i]? =some p)\/(i=ps.length/\p=x):=by
  intro i p z;by_cases o:i<ps.length
  ·rw[AU o]at z;exact .inl z
  ·rw[A0 (by omega)]at z;by_cases l:i=ps.length
   ·subst l;simp at z;exact .inr ⟨rfl,z.symm⟩
   ·rw[Di (by simp;omega)]at z;simp at z
 have t:∀(i:Nat) (p:PR),ps[i]? =some p->Pd p x:=by intro i p z;obtain⟨a,b,c,d⟩:=f i p z;exact⟨by omega,by omega,fun k h3 m=>by have:=c k h3;have:=J k m;omega,fun k h3 m=>by have:=d k h3;have:=Z k m;omega⟩
 refine⟨?_,?_,?_⟩
 ·intro i p z;rcases look i p z with z|⟨_,rfl⟩
  ·exact h.prog i p z
  ·exact h1
 ·intro i p z;rcases look i p z with z|⟨_,rfl⟩
  ·exact h.ref i p z
  ·exact h2
 ·intro i j p q n z hq;rcases look i p z with u|⟨o,s⟩
  ·rcases look j q hq with y|⟨Q,g⟩
   ·exact h.apart i j p q n u y
   ·rw[g];exact t i p u
  ·rcases look j q hq with y|⟨Q,g⟩
   ·rw[s];exact(t j q y).symm
   ·omega
def PR.ct(p:PR):List Value:=[.pointer (some ⟨p.bb,0,none⟩),.pointer (some ⟨p.rb,0,none⟩)]
structure CG(w:World)(B wb:Nat)(hv:Value)(ps:List PR):Prop where
 ends:Dl w
 pos:0<B
 le:B<=w.heap.size
 up:B<=wb
 row:∃pv,Aw w wb [pv,hv] 29/\w.ownsRow B 44 2 pv ps.length (ps.flatMap PR.ct)
 bn:GY w B ps
 same:∀p∈ps,p.ds=p.cs
theorem CG.below{w w':World}{B j:Nat}{q:Value}{ps:List PR}(h:CG w B j q ps)(hb:Below w.heap.size w w'):CG w' B j q ps:=by obtain⟨z,h1,h2⟩:=h.row;exact⟨h.ends.below hb (AH h.pos h.le),h.pos,Ay h.le hb.size,h.up,⟨z,h1.below hb,Ah h2 hb⟩,h.bn.below hb,h.same⟩
theorem Zo(ps:List PR)(i:Nat)(x y:PR)(q:ps[i]? =some x)(hb:y.bb=x.bb)(v:y.rb=x.rb):(ps.set i y).flatMap PR.ct=ps.flatMap PR.ct:=by
 have z:(ps.set i y).map PR.ct=ps.map PR.ct:=by
  apply E5;intro k;rw[Ba,Ba,DM];by_cases j:i=k
  ·subst j;rw[Ai rfl,q];rw[Ai (List.getElem?_eq_some_iff.1 q).1];simp[PR.ct,hb,v]
  ·rw[Af j]
 rw[List.flatMap_def,List.flatMap_def,z]
theorem CG.change{w w1 w2:World}{B G:Nat}{K:Value}{ps:List PR}(h:CG w B G K ps){i:Nat}{x:PR}(n:ps[i]? =some x){r:(Nat×Nat)×List RC}{e R:Ending}
 (hc:GL w B x.bb x.v r e w1)(hd:Gj w1 B x.rb x.r r R w2)(Y:E2 r.2):∃f,f.length=ps.length/\CG w2 B G K f/\Below B w w2/\DF w w2:=by
 have Q:=(List.getElem?_eq_some_iff.1 n).1;have hx:=h.bn.prog i x n;have V:=h.bn.ref i x n;obtain⟨v',d⟩:=h.bn.dz n hc Y;have s:(ps.set i { x with v:=v',cs:=r.2 })[i]? =some { x with v:=v',cs:=r.2 }:=by rw[DM,Ai rfl,Ai Q]
 have u:=d.ref i _ s;obtain⟨r',m⟩:=d.eu s hd Y;have q:=hc.2.2;have z:=hd.2.2;have j:Below B w w1:=q.below h.le (by rintro k (rfl|l);exact hx.up;exact(hx.lt k l).1);have y:Below B w1 w2:=z.below (Ay h.le j.size) (by rintro k (rfl|l);exact V.up;exact(V.lt k l).1);obtain⟨U,hW,Z⟩:=h.row;have b:=hW.only q (En (hx.typed _ (by decide) (by decide)) hW);have g:=BI Z q (F2 Z (hx.typed _ (by decide) (by decide)));have o:=b.only z (En (u.typed _ (by decide) (by decide)) b);have a:=BI g z (F2 g (u.typed _ (by decide) (by decide)));rw[List.set_set]at m;refine⟨_,by simp,⟨(h.ends.below j h.pos).below y h.pos,h.pos,Ay h.le (Ay j.size y.size),h.up,⟨U,o,?_⟩,m,?_⟩,j.trans y,fun t hq ob c hb=>(hb.only q (En (hx.typed _ hq.1 hq.2.1) hb)).only z (En (u.typed _ hq.2.2.1 hq.2.2.2.1) (hb.only q (En (hx.typed _ hq.1 hq.2.1) hb)))⟩
 ·show w2.ownsRow B 44 2 U (ps.set i ⟨x.bb,x.rb,v',r',r.2,r.2⟩).length ((ps.set i ⟨x.bb,x.rb,v',r',r.2,r.2⟩).flatMap PR.ct);rw[Zo ps i x ⟨x.bb,x.rb,v',r',r.2,r.2⟩ n rfl rfl,Pj];exact a
 ·intro p J;rcases G3 J with J|rfl
  ·exact h.same p J
  ·rfl
end
section
attribute [local go_sem] AE As
open Go.RowKit Go.WideMaps Go.Maps
theorem CG.fe{w w1 w2 w3:World}{B q:Nat}{G b:Value}{ps:List PR}(h:CG w B q G ps)(X:Aw w2 q [b,G] 29)(l:w2.ownsRow B 44 2 b ps.length (ps.flatMap PR.ct)){s:ByteArray}(hz:(Ir s).1=0)
 (f:Below w.heap.size w w1)(m:Below w1.heap.size w1 w2){bb rb:Nat}{cs:List RC}(J:(T s.size s.data.toList).bind (PP [])=some cs)(I:w.heap.size<=bb)(a:Dm w1 w.heap.size bb (Bs s).cls)(q5:w1.heap.size<=rb)(C:Cy w2 w1.heap.size rb cs)
 (o:Obj){g cap:Nat}(Z:w3.ownsRow B 44 2 (.slice (some ⟨g,0,none⟩) (ps.length+1) cap) (ps.length+1) (ps.flatMap PR.ct++[.pointer (some ⟨bb,0,none⟩),.pointer (some ⟨rb,0,none⟩)]))(L:(w2.alloc o).grownBy w3 b.ownBlock)
 (Q:Aw w3 q [b,G] 29):
 (∃V,CG (w3.setCell ⟨q,0,none⟩ (.slice (some ⟨g,0,none⟩) (ps.length+1) cap)) B q G V/\V.length=ps.length+1)/\Below B w (w3.setCell ⟨q,0,none⟩ (.slice (some ⟨g,0,none⟩) (ps.length+1) cap))/\DF w (w3.setCell ⟨q,0,none⟩ (.slice (some ⟨g,0,none⟩) (ps.length+1) cap)):=by
 have q0:=f.size;have q6:=m.size;have u:=h.le;have x:=Gc s;rw[J]at x;rw[x.2]at a;have z:=Yf s cs J hz;obtain⟨v,q1,q2⟩:=a;obtain⟨r,W,Y⟩:=C;have j:Below w.heap.size w w2:=f.trans (m.mono q0);obtain⟨vr,K,q4,q3⟩:=q2
 have M:Ur w1 B bb v cs:=⟨q1,⟨vr,BS K u,q4,fun i d c h1 h2=>by
  obtain⟨bv,R,P⟩:=q3 i d c h1 h2
  exact⟨bv,R,BS P u⟩⟩,z,by omega⟩
 have N:Se w2 B rb r cs:=⟨W,Y.mono (by omega),z,by omega⟩;have E:=h.bn.below j;obtain⟨rr,e,_,_⟩:=Y
 have A:GY w2 B (ps++[⟨bb,rb,v,r,cs,cs⟩]):=E.more (n0:=w.heap.size) ⟨bb,rb,v,r,cs,cs⟩ (M.below m) N I (by show w.heap.size<=rb;omega) (A9 K) (fun k y=>by have:=A9 e k y;omega)
  (fun i p U=>⟨(h.bn.prog i p U).al.lt,(h.bn.ref i p U).al.lt,fun k y=>((h.bn.prog i p U).lt k y).2,fun k y=>((h.bn.ref i p U).lt k y).2⟩)
 have H:A3 (fun k=>k=q\/b.ownBlock=some k) w2 (w3.setCell ⟨q,0,none⟩ (.slice (some ⟨g,0,none⟩) (ps.length+1) cap)):=
  A3.setCell (S:=fun k=>k=q\/b.ownBlock=some k) (p:=⟨q,0,none⟩) (A3.trans (S:=fun k=>k=q\/b.ownBlock=some k) (S':=fun k=>k=q\/b.ownBlock=some k) (A3.ab (Ac w2 o)) (A3.cr L (fun k y=>Or.inr y)) (fun k _ y=>y)) (.inl (.inl rfl)) _
 have ht:∀t,29≠t->44≠t->Df w2 (fun k=>k=q\/b.ownBlock=some k) t:=fun t h1 h2=>Lq (Gq X h1) (Kk l h2);have O:=A.other H (ht _ (by decide) (by decide)) (ht _ (by decide) (by decide)) (ht _ (by decide) (by decide)) (ht _ (by decide) (by decide)) (ht _ (by decide) (by decide)) (ht _ (by decide) (by decide)) (ht _ (by decide) (by decide))
 have n:Below B w (w3.setCell ⟨q,0,none⟩ (.slice (some ⟨g,0,none⟩) (ps.length+1) cap)):=(j.mono u).trans (H.below (by omega) (by
  rintro k (rfl|y)
  ·exact h.up
  ·exact A9 l k y))
 refine⟨⟨_,⟨h.ends.below n h.pos,h.pos,Ay u n.size,h.up,⟨_,Q.setCell 0 _,?_⟩,O,?_⟩,by simp⟩,n,fun t hq ob c hb=>(hb.below j).only H (En (ht _ hq.2.2.2.2.1 hq.2.2.2.2.2) (hb.below j))⟩
 ·have R:(ps++[(⟨bb,rb,v,r,cs,cs⟩:PR)]).flatMap PR.ct=ps.flatMap PR.ct++[.pointer (some ⟨bb,0,none⟩),.pointer (some ⟨rb,0,none⟩)]:=by simp[PR.ct]
  have P:(ps++[(⟨bb,rb,v,r,cs,cs⟩:PR)]).length=ps.length+1:=by simp
  rw[R,P];exact AJ Z ⟨q,0,none⟩ _ (Av Z Q (by decide))
 ·intro p x;rw[Bi,A7]at x;rcases x with x|rfl
  ·exact h.same p x
  ·rfl
theorem NI(w:World)(B G:Nat)(X:Value)(ps:List PR)(t:CG w B G X ps)(hn:ps.length<=5000000000000)(s:ByteArray)(hs:s.size<=maxLen):
 Calls prog 9 #[.pointer (some ⟨G,0,none⟩),.string s] w fun e w'=>e=.returned (.bool true)/\(∃m,CG w' B G X m/\m.length=if(Gn s).1=0 then ps.length+1 else ps.length)/\Below B w w'/\DF w w':=by
 obtain⟨A,Q,K,V,U⟩:=Bc aE;obtain⟨pv,hW,M⟩:=t.row;obtain⟨po,q3,rfl⟩:=Au M;have C:=t.ends;have q5:=hW.lt;have q2:=t.pos;have f:=t.le;by_cases v:(Gn s).1=0
 ·have x:=Ao v;have n:=Ao (show(Ir s).1=0 by rw[<-Ob];exact v);rw[Ai v];clear v;go_enter func9,ntmps9;go_wp2_with (first|(go_at_call 12;refine(ZS _ s hs).mono ?_;rintro e w1 ⟨hx,q⟩;rw[Ai x.out]at hx;obtain⟨bb,rfl,i,a⟩:=hx)|(go_at_call 13;refine(Ww _ (C.below q (by omega)) (by have:=q.size;omega) s hs).mono ?_;rintro e w2 ⟨hx,j⟩;rw[Ai n.out]at hx;obtain⟨rb,cs,l,rfl,Y,o⟩:=hx;have k:=q.size;have q0:=j.size;have z:=(hW.below q).below j;have b:=Ah (Ah M q) j;have O:=z.cell 0;have fW:=z.frozen;have q1:=z.lt;simp at O)|(at_builtin;refine AF _ rfl _ _ 26 rfl B 44 A _ 2 16 underlying26 Q K V U rfl (by decide) _ ps.length (ps.flatMap PR.ct) rfl (b.alloc _) ⟨w2.heap.size,0,none⟩ 1 [.pointer (some ⟨bb,0,none⟩),.pointer (some ⟨rb,0,none⟩)] rfl rfl (AS _ _ _) (by intro u N;simp at N;rcases N with rfl|rfl<;>rfl) (by unfold maxLen;omega) (by omega) (by simp;omega) ?_;intro g cap w3 Z c;have J:=Av b z (by decide);have d:=(z.alloc _).grown c J;have E:=d.cell 0;have q4:=d.frozen;simp at E))
  go_ret
  obtain⟨h1,h2,h3⟩:=t.fe z b n.out q j l i a Y o _ Z c d;exact⟨rfl,h1,h2,h3⟩
 ·have x:=Ao v;have n:=Ao (show ¬(Ir s).1=0 by rw[<-Ob];exact v);have S:=Ao (Ob s);rw[Af v];clear v;obtain⟨R,r⟩:∃R,Hid ((Gn s).1=R):=⟨_,rfl⟩;obtain⟨P,p⟩:∃P,Hid ((Gn s).2=P):=⟨_,rfl⟩;go_enter func9,ntmps9;go_wp2_with (first|(go_at_call 12;refine(ZS _ s hs).mono ?_;rintro e w1 ⟨hx,q⟩;rw[Af x.out,r.out,p.out]at hx;subst hx)|(go_at_call 13;refine(Ww _ (C.below q (by omega)) (by have:=q.size;omega) s hs).mono ?_;rintro e w2 ⟨hx,j⟩;rw[Af n.out,<-S.out,r.out,p.out]at hx;subst hx))
  go_ret
  have k:=q.size;have y:Below w.heap.size w w2:=q.trans (j.mono k);exact⟨rfl,⟨ps,t.below y,rfl⟩,y.mono f,DF.ab y⟩
end
end Go.Proofs.YtpbfiffgcgnidaaGreatDoor
