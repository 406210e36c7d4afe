import Derived.Test.YtpbfiffgcgnidaaGreatDoorYal
import Derived.Deep.Onto
import Derived.Test.YtpbfiffgcgnidaaGreatDoorY28
import Derived.Test.YtpbfiffgcgnidaaGreatDoorY29
namespace Go.Proofs.YtpbfiffgcgnidaaGreatDoor
set_option maxRecDepth 100000
set_option maxHeartbeats 4000000
set_option linter.unusedSectionVars false
set_option linter.unusedSimpArgs false
open Go.Proofs.Tryz
section
attribute [local go_sem] AE As
open Go.RowKit Go.WideMaps Go.Maps
def CS(cs:List RC)(s:ByteArray):(Nat×Nat)×List RC:=
 if(Cn cs s).1≠0 then(Cn cs s,cs)
 else match B0 s with
  |none=>((0,0),cs)
  |some a=>match EV a.ts with
   |some p=>((6,p),cs)
   |none=>if 0<C0 cs a.shown then((7,0),cs) else if 40<=cs.length then((1,0),cs) else((0,0),cs++[⟨a,[]⟩])
theorem M7{cs:List RC}{s:ByteArray}(h:(Cn cs s).1≠0):CS cs s=(Cn cs s,cs):=by unfold CS;rw[Ai h]
theorem K9{cs:List RC}{s:ByteArray}{a:RA}(h:Cn cs s=(0,0))(hq:B0 s=some a):CS cs s=match EV a.ts with
 |some p=>((6,p),cs)
 |none=>if 0<C0 cs a.shown then((7,0),cs) else if 40<=cs.length then((1,0),cs) else((0,0),cs++[⟨a,[]⟩]):=by
 unfold CS;rw[h,Af (by simp),hq]
def Gj(w:World)(base rb:Nat)(v:Value)(r:(Nat×Nat)×List RC)(e:Ending)(w':World):Prop:=
 e=.returned (.tuple #[.int .i64 (r.1.1:Nat),.int .i64 (r.1.2:Nat)])/\(∃v',Aw w' rb [v'] 76/\Ck w' base v' r.2/\(v'.ownBlock=v.ownBlock\/∀k,v'.ownBlock=some k->w.heap.size<=k))/\A3 (fun k=>k=rb\/v.ownBlock=some k) w w'
theorem Fc{w w':World}{base rb:Nat}{v:Value}{cs:List RC}{r:(Nat×Nat)×List RC}{x y:Nat}(z:Aw w rb [v] 76)(j:Ck w base v cs)(h:r=((x,y),cs))(q:Below w.heap.size w w'):Gj w base rb v r (.returned (.tuple #[.int .i64 (x:Nat),.int .i64 (y:Nat)])) w':=by subst h;exact⟨rfl,⟨v,z.below q,j.below q,.inl rfl⟩,A3.ab q⟩
theorem A3.refl{S:Nat->Prop}(w:World):A3 S w w:=⟨rfl,rfl,rfl,Ab _,fun _ _ _=>rfl⟩
theorem Gq{w:World}{b:Nat}{cs:List Value}{t e:TypeId}(h:Aw w b cs t)(j:t≠e):Df w (fun k=>k=b) e:=by rintro k rfl cur z q;unfold Aw at h;rw[h]at q;simp at q;exact j q.2.1
theorem Ck.set{w:World}{base:Nat}{v:Value}{l:List RC}(h:Ck w base v l){b:Nat}{q:List Value}{t:TypeId}(hb:Aw w b q t)(h1:t≠130)(h2:t≠69)(h3:t≠71)(o:Nat)(x:Value):Ck (w.setCell ⟨b,o,none⟩ x) base v l:=by have j:=h;obtain⟨rows,y,_,_⟩:=j;exact h.only (S:=fun k=>k=b) (A3.setCell (S:=fun k=>k=b) (A3.refl w) (p:=⟨b,o,none⟩) (.inl rfl) x) (Gq hb h1) (Gq hb h2) (fun k z e=>Av y hb h3 (by rw[z,e]))
theorem EA{s:ByteArray}{a:RA}(h:B0 s=some a):a.Small:=by have hq:=FO s;rw[h]at hq;obtain⟨_,⟨r,j⟩,_⟩:=hq;have q:=LR s s.data.toList;rw[j]at q;exact⟨q.name,by simpa using q.ts,fun t ht=>q.words t.s (Cl ht)⟩
theorem SS(w:World)(t:Dl w)(m:0<w.heap.size)(base rb:Nat)(v:Value)(cs:List RC)(g:Aw w rb [v] 76)(u:Ck w base v cs)(hn:cs.length<=40)(hb:∀c∈cs,c.body.length<=4)(s:ByteArray)(hs:s.size<=maxLen)(q:(Cn cs s).1≠0):
 Calls prog 17 #[.pointer (some ⟨rb,0,none⟩),.string s] w fun e w'=>Gj w base rb v (CS cs s) e w':=by
 have r:Cy w base rb cs:=⟨v,g,u⟩;obtain⟨x,j⟩:∃x,Hid ((Cn cs s).1=x):=⟨_,rfl⟩;obtain⟨y,z⟩:∃y,Hid ((Cn cs s).2=y):=⟨_,rfl⟩;have d:=Ao (show CS cs s=((x,y),cs) by rw[M7 q,<-j.out,<-z.out]);rw[j.out]at q;have q1:(((x:Nat):Int) != 0)=true:=by rw[GG];omega
 go_enter func17,ntmps17;go_wp2_with (go_at_call 40;refine(FR _ t m base rb cs r hn hb s hs).mono ?_;rintro e w1 ⟨c5,b,hF,k,p⟩;clear p;obtain⟨nm,tq,tl,q0,pl,bg,ng,rfl⟩:=hF;rw[j.out,z.out]at b;subst b);go_ret2;exact Fc g u d.out (k.alloc k.size _)
theorem Rc(w:World)(hE:Dl w)(hw:0<w.heap.size)(base rb:Nat)(v:Value)(cs:List RC)(hV:Aw w rb [v] 76)(hL:Ck w base v cs)(hn:cs.length<=40)(hb:∀c∈cs,c.body.length<=4)(C:∀c∈cs,c.Small)(s:ByteArray)(hs:s.size<=maxLen)(hok:Cn cs s=(0,0))(a:RA)(hq:B0 s=some a)(K:EV a.ts≠none\/0<C0 cs a.shown\/40<=cs.length):
 Calls prog 17 #[.pointer (some ⟨rb,0,none⟩),.string s] w fun e w'=>Gj w base rb v (CS cs s) e w':=by
 have M:Cy w base rb cs:=⟨v,hV,hL⟩;have t:=EA hq;have o:=Ao (K9 hok hq);have HE:=Ao hok;have HQ:=Ao hq;obtain⟨X,U⟩:∃X,Hid (C0 cs a.shown=X):=⟨_,rfl⟩;rw[U.out]at K o;clear hok hq
 cases hg:EV a.ts with
 |some p=>have W:=Ao hg;have N:=Ao (show CS cs s=((6,p),cs) by rw[o.out,hg]);clear hg K o;go_enter func17,ntmps17;go_wp2_with (first|(go_at_call 40;refine(FR _ hE hw base rb cs M hn hb s hs).mono ?_;rintro e w1 ⟨c5,u,hF,b,R⟩;clear hF;rw[HE.out]at u R;obtain⟨a',d,tv,rfl,f⟩:=R rfl;rw[HQ.out]at d;obtain rfl:=Be d;clear d;obtain⟨i,q,rfl⟩:=Au f;subst u;have k:=Ac w1 (.cells #[.string a.w,.slice i a.ts.length q,.int .i64 (a.pl:Nat),.int .i64 (a.af:Nat),.bool a.neg] 69);have r:=Aw.new w1 [.string a.w,.slice i a.ts.length q,.int .i64 (a.pl:Nat),.int .i64 (a.af:Nat),.bool a.neg] 69;have n:=Ah f k;have V:=b.size;have H:=k.size;have J:=(Cy.below M b).below k;have G:=r.lt)|(go_at_call 41;refine(H9 _ w.heap.size a i q a.neg (by exact n) (by have:=t.bp;omega)).mono ?_;rintro e w2 ⟨u,j⟩;rw[W.out]at u;simp only[]at u;subst u;have g:=r.below j;have x:=Ah n j;have Z:=J.below j;have O:=j.size;obtain⟨a0,a1,a2,a3,a4⟩:=g.c5;have B:=g.lt)|(go_at_call 43;refine(Es _ w.heap.size a i q (by exact x) t).mono ?_;rintro e w3 ⟨rfl,z⟩;have m:=Z.below z;have l:=g.below z;have Y:=Ah x z;have I:=z.size)|(go_at_call 42;refine(Jw _ base rb cs (by exact m) C hn a.shown (by have:=a.au t;omega)).mono ?_;rintro e w4 ⟨u,y⟩;rw[U.out]at u;subst u;have P:=m.below y;have S:=l.below y;have E:=Ah Y y;have L:=y.size));have Q:Below w.heap.size w w4:=(((b.trans (k.mono V)).trans (j.mono (by omega))).trans (z.mono (by omega))).trans (y.mono (by omega));go_ret2;exact Fc hV hL N.out Q
 |none=>
  have W:=Ao hg;by_cases hf:0<X
  ·have N:=Ao (show CS cs s=((7,0),cs) by rw[o.out,hg];simp only[];rw[Ai hf]);have q2:(0:Int)<(X:Int):=by omega
   clear hg K o;go_enter func17,ntmps17;go_wp2_with (first|(go_at_call 40;refine(FR _ hE hw base rb cs M hn hb s hs).mono ?_;rintro e w1 ⟨c5,u,hF,b,R⟩;clear hF;rw[HE.out]at u R;obtain⟨a',d,tv,rfl,f⟩:=R rfl;rw[HQ.out]at d;obtain rfl:=Be d;clear d;obtain⟨i,q,rfl⟩:=Au f;subst u;have k:=Ac w1 (.cells #[.string a.w,.slice i a.ts.length q,.int .i64 (a.pl:Nat),.int .i64 (a.af:Nat),.bool a.neg] 69);have r:=Aw.new w1 [.string a.w,.slice i a.ts.length q,.int .i64 (a.pl:Nat),.int .i64 (a.af:Nat),.bool a.neg] 69;have n:=Ah f k;have V:=b.size;have H:=k.size;have J:=(Cy.below M b).below k;have G:=r.lt)|(go_at_call 41;refine(H9 _ w.heap.size a i q a.neg (by exact n) (by have:=t.bp;omega)).mono ?_;rintro e w2 ⟨u,j⟩;rw[W.out]at u;simp only[]at u;subst u;have g:=r.below j;have x:=Ah n j;have Z:=J.below j;have O:=j.size;obtain⟨a0,a1,a2,a3,a4⟩:=g.c5;have B:=g.lt)|(go_at_call 43;refine(Es _ w.heap.size a i q (by exact x) t).mono ?_;rintro e w3 ⟨rfl,z⟩;have m:=Z.below z;have l:=g.below z;have Y:=Ah x z;have I:=z.size)|(go_at_call 42;refine(Jw _ base rb cs (by exact m) C hn a.shown (by have:=a.au t;omega)).mono ?_;rintro e w4 ⟨u,y⟩;rw[U.out]at u;subst u;have P:=m.below y;have S:=l.below y;have E:=Ah Y y;have L:=y.size));have Q:Below w.heap.size w w4:=(((b.trans (k.mono V)).trans (j.mono (by omega))).trans (z.mono (by omega))).trans (y.mono (by omega));go_ret2;exact Fc hV hL N.out Q
  ·have A:40<=cs.length:=by
    rcases K with h|h|h
    ·exact absurd hg h
    ·exact absurd h hf
    ·exact h
   have N:=Ao (show CS cs s=((1,0),cs) by rw[o.out,hg];simp only[];rw[Af hf,Ai A]);have q2:¬(0:Int)<(X:Int):=by omega
   have q3:(40:Int)<=(cs.length:Int):=by omega
   clear hg K o;go_enter func17,ntmps17;go_wp2_with (first|(go_at_call 40;refine(FR _ hE hw base rb cs M hn hb s hs).mono ?_;rintro e w1 ⟨c5,u,hF,b,R⟩;clear hF;rw[HE.out]at u R;obtain⟨a',d,tv,rfl,f⟩:=R rfl;rw[HQ.out]at d;obtain rfl:=Be d;clear d;obtain⟨i,q,rfl⟩:=Au f;subst u;have k:=Ac w1 (.cells #[.string a.w,.slice i a.ts.length q,.int .i64 (a.pl:Nat),.int .i64 (a.af:Nat),.bool a.neg] 69);have r:=Aw.new w1 [.string a.w,.slice i a.ts.length q,.int .i64 (a.pl:Nat),.int .i64 (a.af:Nat),.bool a.neg] 69;have n:=Ah f k;have V:=b.size;have H:=k.size;have J:=(Cy.below M b).below k;have G:=r.lt)|(go_at_call 41;refine(H9 _ w.heap.size a i q a.neg (by exact n) (by have:=t.bp;omega)).mono ?_;rintro e w2 ⟨u,j⟩;rw[W.out]at u;simp only[]at u;subst u;have g:=r.below j;have x:=Ah n j;have Z:=J.below j;have O:=j.size;obtain⟨a0,a1,a2,a3,a4⟩:=g.c5;have B:=g.lt)|(go_at_call 43;refine(Es _ w.heap.size a i q (by exact x) t).mono ?_;rintro e w3 ⟨rfl,z⟩;have m:=Z.below z;have l:=g.below z;have Y:=Ah x z;have I:=z.size)|(go_at_call 42;refine(Jw _ base rb cs (by exact m) C hn a.shown (by have:=a.au t;omega)).mono ?_;rintro e w4 ⟨u,y⟩;rw[U.out]at u;subst u;have P:=m.below y;have S:=l.below y;have E:=Ah Y y;have L:=y.size;obtain⟨v4,q1,q0⟩:=P;obtain⟨ao,cap,rfl⟩:=q0.form;have q4:=q1.cell 0;simp at q4));have Q:Below w.heap.size w w4:=(((b.trans (k.mono V)).trans (j.mono (by omega))).trans (z.mono (by omega))).trans (y.mono (by omega));go_ret2;exact Fc hV hL N.out Q
theorem OT{cs:List RC}{s:ByteArray}(h:(Cn cs s).1=0):∃a,B0 s=some a/\Cn cs s=(0,0):=by
 unfold Cn at h⊢
 split at h
 ·simp at h
 ·rename_i q;rw[Af q]
  cases hq:B0 s with
  |none=>rw[hq]at h;simp at h
  |some a=>
   refine⟨a,rfl,?_⟩;rw[hq]at h;simp only[]at h⊢
   split at h
   ·simp at h
   ·rename_i hc;rw[Af hc]
theorem Re(w:World)(hE:Dl w)(hw:0<w.heap.size)(base rb:Nat)(v:Value)(cs:List RC)(q7:base<=w.heap.size)(hV:Aw w rb [v] 76)(hL:Ck w base v cs)(hb:∀c∈cs,c.body.length<=4)(q8:∀c∈cs,c.Small)(s:ByteArray)(hs:s.size<=maxLen)(hok:Cn cs s=(0,0))(a:RA)(hq:B0 s=some a)(hg:EV a.ts=none)(hf:¬0<C0 cs a.shown)(z4:cs.length<40):
 Calls prog 17 #[.pointer (some ⟨rb,0,none⟩),.string s] w fun e w'=>Gj w base rb v (CS cs s) e w':=by
 obtain⟨i1,q9,j5,j6,j7⟩:=Bc J4;have hn:cs.length<=40:=by omega
 obtain⟨ao,cap,rfl⟩:=hL.form;have hI:Cy w base rb cs:=⟨_,hV,hL⟩;have M:=EA hq;have HC:=Ao (show CS cs s=((0,0),cs++[⟨a,[]⟩]) by rw[K9 hok hq,hg];simp only[];rw[Af hf,Af (by omega)]);have HE:=Ao hok;have HQ:=Ao hq;have HG:=Ao hg;obtain⟨fn,X⟩:∃fn,Hid (C0 cs a.shown=fn):=⟨_,rfl⟩;rw[X.out]at hf;have z9:¬(0:Int)<(fn:Int):=by omega
 have j0:¬(40:Int)<=(cs.length:Int):=by omega
 clear hok hq hg;go_enter func17,ntmps17;go_wp2_with (first|(go_at_call 40;refine(FR _ hE hw base rb cs hI hn hb s hs).mono ?_;rintro e w1 ⟨c5,n,hF,t,hm⟩;clear hF;rw[HE.out]at n hm;obtain⟨a',C,tv,rfl,K⟩:=hm rfl;rw[HQ.out]at C;obtain rfl:=Be C;clear C;obtain⟨b,q,rfl⟩:=Au K;subst n;have d:=Ac w1 (.cells #[.string a.w,.slice b a.ts.length q,.int .i64 (a.pl:Nat),.int .i64 (a.af:Nat),.bool a.neg] 69);have f:=Aw.new w1 [.string a.w,.slice b a.ts.length q,.int .i64 (a.pl:Nat),.int .i64 (a.af:Nat),.bool a.neg] 69;have Z:=Ah K d;have j8:=t.size;have y3:=d.size;have V:=(hV.below t).below d;have o:=(hL.below t).below d;have q3:Cy _ base rb cs:=⟨_,V,o⟩;have z1:=f.lt)|(go_at_call 41;refine(H9 _ w.heap.size a b q a.neg (by exact Z) (by have:=M.bp;omega)).mono ?_;rintro e w2 ⟨n,z⟩;rw[HG.out]at n;simp only[]at n;subst n;have p:=f.below z;have Y:=Ah Z z;have U:=V.below z;have Q:=o.below z;have q4:Cy _ base rb cs:=⟨_,U,Q⟩;have y0:=z.size;obtain⟨a0,a1,a2,a3,a4⟩:=p.c5;have z2:=p.lt)|(go_at_call 43;refine(Es _ w.heap.size a b q (by exact Y) M).mono ?_;rintro e w3 ⟨rfl,y⟩;have G:=U.below y;have J:=Q.below y;have I:Cy _ base rb cs:=⟨_,G,J⟩;have E:=p.below y;have L:=Ah Y y;have y1:=y.size)|(go_at_call 42;refine(Jw _ base rb cs (by exact I) q8 hn a.shown (by have:=a.au M;omega)).mono ?_;rintro e w4 ⟨n,g⟩;rw[X.out]at n;subst n;have r:=G.below g;have q5:=J.below g;have j9:=r.cell 0;have z7:=r.frozen;have z5:=r.lt;simp at j9;have A:=E.below g;have q6:=Ah L g;have y2:=g.size;obtain⟨a0,a1,a2,a3,a4⟩:=A.c5;have z3:=A.lt));have O:Below w.heap.size w w4:=(((t.trans (d.mono j8)).trans (z.mono (by omega))).trans (y.mono (by omega))).trans (g.mono (by omega));have y4:=O.size;have q1:BY w4 base a [.string a.w,.slice b a.ts.length q,.int .i64 (a.pl:Nat),.int .i64 (a.af:Nat),.bool a.neg]:=⟨_,rfl,BS q6 q7⟩;clear f p E Z Y L V U G o Q J q3 q4 I t d z y g K;obtain⟨rows,ho,hl,hr⟩:=q5;have x:∀N,((w4.alloc N).drew).ownsRow base 71 6 (.slice ao cs.length cap) cs.length rows.flatten:=fun N=>ho.alloc N;have P:∀j u,[Value.string a.w,.slice b a.ts.length q,.int .i64 (a.pl:Nat),.int .i64 (a.af:Nat),.bool a.neg,.slice none 0 0][j]? =some u->((w4.alloc (.cells #[Value.string a.w,.slice b a.ts.length q,.int .i64 (a.pl:Nat),.int .i64 (a.af:Nat),.bool a.neg,.slice none 0 0] 71)).drew).cell? ((⟨w4.heap.size,0,none⟩:Addr).add j)=some u:=fun j u h=>AS w4 [Value.string a.w,.slice b a.ts.length q,.int .i64 (a.pl:Nat),.int .i64 (a.af:Nat),.bool a.neg,.slice none 0 0] 71 j u h
 have q0:∀u∈[Value.string a.w,.slice b a.ts.length q,.int .i64 (a.pl:Nat),.int .i64 (a.af:Nat),.bool a.neg,.slice none 0 0],u.oneCell'=true:=by
  intro u hu;simp at hu;rcases hu with rfl|rfl|rfl|rfl|rfl|rfl<;>rfl
 have j2:cs.length+1<=maxLen:=by unfold maxLen;omega
 have j1:(cs.length+1)*88<=140737488355328:=by omega
 have q2:∀N,base<=((w4.alloc N).drew).heap.size:=by intro N;simp;omega
 have W:=Av ho r (by decide)
 go_region_law (refine CP _ rfl (.tmp 50) (.tmp 53) 60 rfl base 71 i1 _ 6 88 underlying60 q9 j5 j6 j7 rfl (by decide) (.slice ao cs.length cap) cs.length rows.flatten (by simp[Act.eval]) (x _) ⟨w4.heap.size,0,none⟩ 1 1 [.string a.w,.slice b a.ts.length q,.int .i64 (a.pl:Nat),.int .i64 (a.af:Nat),.bool a.neg,.slice none 0 0] (by simp[Act.eval]) (by decide) rfl P q0 j2 j1 (q2 _) ?_;intro g5 z0 w5 j3 B j4;have m:=(r.alloc _).drew.grown B W;have d0:=m.cell 0;have z8:=m.frozen;simp at d0)
 all_goals go_wp2_with fail
 all_goals go_ret2
 all_goals
  rw[HC.out];have h2:Below w4.heap.size w4 (w4.alloc (.cells #[.string a.w,.slice b a.ts.length q,.int .i64 (a.pl:Nat),.int .i64 (a.af:Nat),.bool a.neg,.slice none 0 0] 71)).drew:=(Ac w4 _).drew;have R:=Ck.more (w:=(w4.alloc (.cells #[.string a.w,.slice b a.ts.length q,.int .i64 (a.pl:Nat),.int .i64 (a.af:Nat),.bool a.neg,.slice none 0 0] 71)).drew) (w':=w5) (base:=base) (l:=cs) (c:=⟨a,[]⟩) (fun i c cs h1 h3=>(hr i c cs h1 h3).below h2) hl (x _) (BT.below (w:=w4) ⟨[.string a.w,.slice b a.ts.length q,.int .i64 (a.pl:Nat),.int .i64 (a.af:Nat),.bool a.neg],.slice none 0 0,rfl,q1,⟨[],Ak _ _ _ _,rfl,by simp⟩⟩ h2) j3 B;refine⟨rfl,⟨_,m.setCell 0 _,R.set m (by decide) (by decide) (by decide) 0 _,?_⟩,?_⟩
  ·rcases j4 with h|h
   ·exact .inl h
   ·refine .inr (fun k H=>?_);simp[Value.ownBlock]at H;simp at h;omega
  ·refine A3.setCell ?_ (.inl (.inl rfl)) _;have h4:A3 (fun k=>k=rb\/(Value.slice ao cs.length cap).ownBlock=some k) w (w4.alloc (.cells #[.string a.w,.slice b a.ts.length q,.int .i64 (a.pl:Nat),.int .i64 (a.af:Nat),.bool a.neg,.slice none 0 0] 71)).drew:=A3.drew (A3.alloc (A3.ab O) _);exact h4.trans (A3.cr (S:=fun k=>k=rb\/(Value.slice ao cs.length cap).ownBlock=some k) B (fun k H=>.inr H)) (fun k _ H=>H)
theorem XA(w:World)(y:Dl w)(b:0<w.heap.size)(base rb:Nat)(v:Value)(cs:List RC)(g:base<=w.heap.size)(u:Aw w rb [v] 76)(k:Ck w base v cs)(hn:cs.length<=40)(hb:∀c∈cs,c.body.length<=4)(z:∀c∈cs,c.Small)(s:ByteArray)(hs:s.size<=maxLen):
 Calls prog 17 #[.pointer (some ⟨rb,0,none⟩),.string s] w fun e w'=>Gj w base rb v (CS cs s) e w':=by
 by_cases j:(Cn cs s).1≠0
 ·exact SS w y b base rb v cs u k hn hb s hs j
 ·obtain⟨a,hq,hok⟩:=OT (by simpa using j);by_cases q:EV a.ts≠none\/0<C0 cs a.shown\/40<=cs.length
  ·exact Rc w y b base rb v cs u k hn hb z s hs hok a hq q
  ·simp only[not_or,Decidable.not_not]at q;exact Re w y b base rb v cs g u k hb z s hs hok a hq q.1 q.2.1 (by omega)
def EH(x:B8)(c:RC):Bool:= !(c.body.isEmpty&&decide (c.shown=x++[46]))
def Cx(cs:List RC)(s:ByteArray):(Nat×Nat)×List RC:=
 if(Cn cs s).1≠0 then(Cn cs s,cs)
 else match B0 s with
  |none=>((0,0),cs)
  |some a=>match EV a.ts with
   |some p=>((6,p),cs)
   |none=>if C0 cs a.shown=0 then((8,0),cs) else((0,0),cs.filter (EH a.shown))
theorem Lv{cs:List RC}{s:ByteArray}(h:(Cn cs s).1≠0):Cx cs s=(Cn cs s,cs):=by unfold Cx;rw[Ai h]
theorem JW{cs:List RC}{s:ByteArray}{a:RA}(h:Cn cs s=(0,0))(hq:B0 s=some a):Cx cs s=match EV a.ts with
 |some p=>((6,p),cs)
 |none=>if C0 cs a.shown=0 then((8,0),cs) else((0,0),cs.filter (EH a.shown)):=by
 unfold Cx;rw[h,Af (by simp),hq]
theorem TL(cs:List RC)(p:RC->Bool)(k:Nat)(q:k<cs.length):(cs.take (k+1)).filter p=(cs.take k).filter p++(if p cs[k]=true then [cs[k]] else []):=by rw[Ad q,Ip];congr 1;cases h:p cs[k]<;>simp[h]
theorem WK{w w':World}{own base:Nat}{v v':Value}{l:List RC}{c:RC}{cs:List Value}{rows:List (List Value)}(d:∀(i:Nat) (c:RC) (cs:List Value),l[i]? =some c->rows[i]? =some cs->BT w base c cs)(y:rows.length=l.length)
 (u:w.ownsRow own 71 6 v l.length rows.flatten)(hc:BT w base c cs)(j:w'.ownsRow own 71 6 v' (l.length+1) (rows.flatten++cs))(z:w.grownBy w' v.ownBlock):
 ∃q:List (List Value),w'.ownsRow own 71 6 v' (l++[c]).length q.flatten/\q.length=(l++[c]).length/\∀(i:Nat) (c':RC) (cs':List Value),(l++[c])[i]? =some c'->q[i]? =some cs'->BT w' base c' cs':=by
 refine⟨rows++[cs],by simpa using j,by simp[y],?_⟩;intro i g cs' h1 h2;by_cases b:i<l.length
 ·rw[AU b]at h1;rw[AU (by omega)]at h2;exact(d i g cs' h1 h2).kept z u
 ·rw[A0 (by omega)]at h1;rw[A0 (by omega),y]at h2
  cases hk:i-l.length with
  |zero=>rw[hk]at h1 h2;simp at h1 h2;subst h1;subst h2;exact hc.kept z u
  |succ k=>rw[hk]at h1;simp at h1
theorem Q5(w:World)(t:Dl w)(m:0<w.heap.size)(base rb:Nat)(v:Value)(cs:List RC)(g:Aw w rb [v] 76)(u:Ck w base v cs)(hn:cs.length<=40)(hb:∀c∈cs,c.body.length<=4)(s:ByteArray)(hs:s.size<=maxLen)(q:(Cn cs s).1≠0):
 Calls prog 19 #[.pointer (some ⟨rb,0,none⟩),.string s] w fun e w'=>Gj w base rb v (Cx cs s) e w':=by
 have r:Cy w base rb cs:=⟨v,g,u⟩;obtain⟨x,j⟩:∃x,Hid ((Cn cs s).1=x):=⟨_,rfl⟩;obtain⟨y,z⟩:∃y,Hid ((Cn cs s).2=y):=⟨_,rfl⟩;have d:=Ao (show Cx cs s=((x,y),cs) by rw[Lv q,<-j.out,<-z.out]);rw[j.out]at q;have q1:(((x:Nat):Int) != 0)=true:=by rw[GG];omega
 go_enter func19,ntmps19;go_wp2_with (go_at_call 40;refine(FR _ t m base rb cs r hn hb s hs).mono ?_;rintro e w1 ⟨c5,b,hF,k,p⟩;clear p;obtain⟨nm,tq,tl,q0,pl,bg,ng,rfl⟩:=hF;rw[j.out,z.out]at b;subst b);go_ret2;exact Fc g u d.out (k.alloc k.size _)
theorem Pq(w:World)(hE:Dl w)(hw:0<w.heap.size)(base rb:Nat)(v:Value)(cs:List RC)(I:Aw w rb [v] 76)(A:Ck w base v cs)(hn:cs.length<=40)(hb:∀c∈cs,c.body.length<=4)(G:∀c∈cs,c.Small)(s:ByteArray)(hs:s.size<=maxLen)(hok:Cn cs s=(0,0))(a:RA)(hq:B0 s=some a)(i:EV a.ts≠none\/C0 cs a.shown=0):
 Calls prog 19 #[.pointer (some ⟨rb,0,none⟩),.string s] w fun e w'=>Gj w base rb v (Cx cs s) e w':=by
 have C:Cy w base rb cs:=⟨v,I,A⟩;have t:=EA hq;have r:=Ao (JW hok hq);have HE:=Ao hok;have HQ:=Ao hq;obtain⟨X,Q⟩:∃X,Hid (C0 cs a.shown=X):=⟨_,rfl⟩;rw[Q.out]at i r;clear hok hq
 cases hg:EV a.ts with
 |some p=>have N:=Ao hg;have M:=Ao (show Cx cs s=((6,p),cs) by rw[r.out,hg]);clear hg i r;go_enter func19,ntmps19;go_wp2_with (first|(go_at_call 40;refine(FR _ hE hw base rb cs C hn hb s hs).mono ?_;rintro e w1 ⟨c5,u,hF,b,P⟩;clear hF;rw[HE.out]at u P;obtain⟨a',d,tv,rfl,o⟩:=P rfl;rw[HQ.out]at d;obtain rfl:=Be d;clear d;obtain⟨l,q,rfl⟩:=Au o;subst u;have k:=Ac w1 (.cells #[.string a.w,.slice l a.ts.length q,.int .i64 (a.pl:Nat),.int .i64 (a.af:Nat),.bool a.neg] 69);have m:=Aw.new w1 [.string a.w,.slice l a.ts.length q,.int .i64 (a.pl:Nat),.int .i64 (a.af:Nat),.bool a.neg] 69;have x:=Ah o k;have U:=b.size;have q0:=k.size;have Y:=(Cy.below C b).below k;have B:=m.lt)|(go_at_call 41;refine(H9 _ w.heap.size a l q a.neg (by exact x) (by have:=t.bp;omega)).mono ?_;rintro e w2 ⟨u,j⟩;rw[N.out]at u;simp only[]at u;subst u;have g:=m.below j;have f:=Ah x j;have K:=Y.below j;have L:=j.size;obtain⟨a0,a1,a2,a3,a4⟩:=g.c5;have R:=g.lt)|(go_at_call 43;refine(Es _ w.heap.size a l q (by exact f) t).mono ?_;rintro e w3 ⟨rfl,z⟩;have n:=K.below z;have J:=g.below z;have V:=Ah f z;have H:=z.size)|(go_at_call 42;refine(Jw _ base rb cs (by exact n) G hn a.shown (by have:=a.au t;omega)).mono ?_;rintro e w4 ⟨u,y⟩;rw[Q.out]at u;subst u;have E:=n.below y;have S:=J.below y;have O:=Ah V y;have W:=y.size));have Z:Below w.heap.size w w4:=(((b.trans (k.mono U)).trans (j.mono (by omega))).trans (z.mono (by omega))).trans (y.mono (by omega));go_ret2;exact Fc I A M.out Z
 |none=>
  have N:=Ao hg
  have hf:X=0:=by
   rcases i with h|h
   ·exact absurd hg h
   ·exact h
  have M:=Ao (show Cx cs s=((8,0),cs) by rw[r.out,hg];simp only[];rw[Ai hf]);subst hf;clear hg i r;go_enter func19,ntmps19;go_wp2_with (first|(go_at_call 40;refine(FR _ hE hw base rb cs C hn hb s hs).mono ?_;rintro e w1 ⟨c5,u,hF,b,P⟩;clear hF;rw[HE.out]at u P;obtain⟨a',d,tv,rfl,o⟩:=P rfl;rw[HQ.out]at d;obtain rfl:=Be d;clear d;obtain⟨l,q,rfl⟩:=Au o;subst u;have k:=Ac w1 (.cells #[.string a.w,.slice l a.ts.length q,.int .i64 (a.pl:Nat),.int .i64 (a.af:Nat),.bool a.neg] 69);have m:=Aw.new w1 [.string a.w,.slice l a.ts.length q,.int .i64 (a.pl:Nat),.int .i64 (a.af:Nat),.bool a.neg] 69;have x:=Ah o k;have U:=b.size;have q0:=k.size;have Y:=(Cy.below C b).below k;have B:=m.lt)|(go_at_call 41;refine(H9 _ w.heap.size a l q a.neg (by exact x) (by have:=t.bp;omega)).mono ?_;rintro e w2 ⟨u,j⟩;rw[N.out]at u;simp only[]at u;subst u;have g:=m.below j;have f:=Ah x j;have K:=Y.below j;have L:=j.size;obtain⟨a0,a1,a2,a3,a4⟩:=g.c5;have R:=g.lt)|(go_at_call 43;refine(Es _ w.heap.size a l q (by exact f) t).mono ?_;rintro e w3 ⟨rfl,z⟩;have n:=K.below z;have J:=g.below z;have V:=Ah f z;have H:=z.size)|(go_at_call 42;refine(Jw _ base rb cs (by exact n) G hn a.shown (by have:=a.au t;omega)).mono ?_;rintro e w4 ⟨u,y⟩;rw[Q.out]at u;subst u;have E:=n.below y;have S:=J.below y;have O:=Ah V y;have W:=y.size));have Z:Below w.heap.size w w4:=(((b.trans (k.mono U)).trans (j.mono (by omega))).trans (z.mono (by omega))).trans (y.mono (by omega));go_ret2;exact Fc I A M.out Z
theorem Pr(w:World)(hE:Dl w)(hw:0<w.heap.size)(base rb:Nat)(v:Value)(cs:List RC)(u5:base<=w.heap.size)(hV:Aw w rb [v] 76)(hL:Ck w base v cs)(hn:cs.length<=40)(hb:∀c∈cs,c.body.length<=4)(y6:∀c∈cs,c.Small)(s:ByteArray)(hs:s.size<=maxLen)(hok:Cn cs s=(0,0))(a:RA)(hq:B0 s=some a)(r:EV a.ts=none)(hf:C0 cs a.shown≠0):
 Calls prog 19 #[.pointer (some ⟨rb,0,none⟩),.string s] w fun e w'=>Gj w base rb v (Cx cs s) e w':=by
 obtain⟨i1,y7,k0,k1,k2⟩:=Bc J4;obtain⟨ao,cap,rfl⟩:=hL.form;have hI:Cy w base rb cs:=⟨_,hV,hL⟩;have N:=EA hq;have HC:=Ao (show Cx cs s=((0,0),cs.filter (EH a.shown)) by rw[JW hok hq,r];simp only[];rw[Af hf]);have HE:=Ao hok;have HQ:=Ao hq;have HG:=Ao r;obtain⟨fn,z9⟩:∃fn,Hid (C0 cs a.shown=fn):=⟨_,rfl⟩;rw[z9.out]at hf;have v3:¬(fn:Int)=0:=by omega
 have u6:((fn:Int)==0)=false:=by simpa using v3
 have v9:=a.au N;have u9:¬9223372036854775807<(bs a.shown).size+1:=by rw[Fe];omega
 have y0:=Ao (show bs a.shown++⟨#[46]⟩=bs (a.shown++[46]) from Ih a.shown [46]);clear hok hq r;go_enter func19,ntmps19;go_wp2_with (first|(go_at_call 40;refine(FR _ hE hw base rb cs hI hn hb s hs).mono ?_;rintro e w1 ⟨c5,he,hF,O,hm⟩;clear hF;rw[HE.out]at he hm;obtain⟨a',z3,tv,rfl,j7⟩:=hm rfl;rw[HQ.out]at z3;obtain rfl:=Be z3;clear z3;obtain⟨tq,f,rfl⟩:=Au j7;subst he;have C:=Ac w1 (.cells #[.string a.w,.slice tq a.ts.length f,.int .i64 (a.pl:Nat),.int .i64 (a.af:Nat),.bool a.neg] 69);have q9:=Aw.new w1 [.string a.w,.slice tq a.ts.length f,.int .i64 (a.pl:Nat),.int .i64 (a.af:Nat),.bool a.neg] 69;have j4:=Ah j7 C;have v5:=O.size;have g3:=C.size;have j8:=(hV.below O).below C;have j1:=(hL.below O).below C;have k7:Cy _ base rb cs:=⟨_,j8,j1⟩;have u0:=q9.lt)|(go_at_call 41;refine(H9 _ w.heap.size a tq f a.neg (by exact j4) (by have:=N.bp;omega)).mono ?_;rintro e w2 ⟨he,Y⟩;rw[HG.out]at he;simp only[]at he;subst he;have q6:=q9.below Y;have j5:=Ah j4 Y;have j9:=j8.below Y;have j2:=j1.below Y;have k8:Cy _ base rb cs:=⟨_,j9,j2⟩;have g0:=Y.size;obtain⟨a0,a1,a2,a3,a4⟩:=q6.c5;have u1:=q6.lt)|(go_at_call 43;refine(Es _ w.heap.size a tq f (by exact j5) N).mono ?_;rintro e w3 ⟨rfl,K⟩;have z0:=j9.below K;have j3:=j2.below K;have y4:Cy _ base rb cs:=⟨_,z0,j3⟩;have y2:=q6.below K;have y5:=Ah j5 K;have g1:=K.size)|(go_at_call 42;refine(Jw _ base rb cs (by exact y4) y6 hn a.shown (by have:=a.au N;omega)).mono ?_;rintro e w4 ⟨he,V⟩;rw[z9.out]at he;subst he;have o:=z0.below V;have k9:=j3.below V;have k5:=o.cell 0;have k6:=o.frozen;have u3:=o.lt;simp at k5;have A:=y2.below V;have j6:=Ah y5 V;have g2:=V.size;obtain⟨a0,a1,a2,a3,a4⟩:=A.c5;have u2:=A.lt));have y3:Below w.heap.size w w4:=(((O.trans (C.mono v5)).trans (Y.mono (by omega))).trans (K.mono (by omega))).trans (V.mono (by omega));have v7:=y3.size;clear q9 q6 y2 j4 j5 y5 j8 j9 z0 j1 j2 j3 k7 k8 y4 O C Y K V j7 a0 a1 a2 a3 a4 k5 k6
 go_loopw [12,13] (fun lv kv wr=>∃(k:Nat) (rows:List (List Value)) (m:Nat),k<=cs.length/\kv=.int .i64 k/\wr.ownsRow w4.heap.size 71 6 lv m rows.flatten/\rows.length=m/\Hid (m=((cs.take k).filter (EH a.shown)).length)/\(∀(i:Nat) (c:RC) (cs':List Value),((cs.take k).filter (EH a.shown))[i]? =some c->rows[i]? =some cs'->BT wr base c cs')/\Below w4.heap.size w4 wr) (fun _ kv _=>cs.length-(intOf kv).toNat)
 case atStart=>exact⟨0,[],0,by omega,rfl,Ak _ _ _ _,rfl,Ao (by simp),by simp,Ag _ _⟩
 case round=>
  obtain⟨k,rows,m,hk,rfl,n,q8,P,h,Q⟩:=hrel;obtain⟨lo,k3,rfl⟩:=Au n;have z8:=Q.size;have L:=o.below Q;have v0:wr.cell? ⟨rb,0,none⟩=some (.slice ao cs.length cap):=L.cell 0;have u8:=L.lt;have u4:=L.frozen;by_cases z1:k<cs.length
  ·obtain⟨g,tv,bo,bcap,rfl,r,b0,b1,b2,b3,b4,b5,M,I⟩:=DZ (k9.below Q) rfl k z1;have z7:=y6 cs[k] (Aj z1);have Z:=Ao (TL cs (EH a.shown) k z1)
   have u7:m<=40:=by
    rw[P.out];have h1:=Jf (EH a.shown) (cs.take k);have h2:(cs.take k).length<=k:=by simp;omega
    omega
   generalize cs[k]=c at*;obtain⟨E,z,rfl⟩:=Au M;obtain⟨X,S⟩:∃X,Hid (X=(cs.take k).filter (EH a.shown)):=⟨_,rfl⟩;have d:Hid (m=X.length):=by rw[S.out];exact P.out
   rw[<-S.out]at Z;clear P;by_cases G:c.body.length=0
   ·have U:c.body.isEmpty=true:=by cases hc:c.body with
     |nil=>rfl
     |cons x y=>rw[hc]at G;simp at G
    have v1:¬(0:Int)<(c.body.length:Int):=by omega
    have v2:¬0<c.body.length:=by omega
    have hq:=D4 c.shown (a.shown++[46]);cases hd:decide (c.shown=a.shown++[46])
    ·rw[hd]at hq;have HN:=Ao (show(cs.take (k+1)).filter (EH a.shown)=X++[c] by rw[Z.out,EH,U,hd];rfl);have v4:((bs c.shown).toList==(bs a.shown++⟨#[46]⟩).toList)=false:=by rw[y0.out];exact hq
     clear Z G U hd hq;go_wp2_with (first|(go_at_call 36;refine(Hy _ base c E z bo bcap (by exact M) (by exact I) z7).mono ?_;rintro e w5 ⟨rfl,q⟩;have J:=q.size;have k4:w5.cell? ⟨rb,0,none⟩=some (.slice (some ⟨g,0,none⟩) cs.length cap):=((o.below Q).below q).cell 0;have q0:=(q.cell (p:=⟨g,k*6,none⟩) r).trans b0;have q1:=(q.cell (p:=⟨g,k*6+1,none⟩) r).trans b1;have q2:=(q.cell (p:=⟨g,k*6+2,none⟩) r).trans b2;have q3:=(q.cell (p:=⟨g,k*6+3,none⟩) r).trans b3;have q4:=(q.cell (p:=⟨g,k*6+4,none⟩) r).trans b4;have q5:=(q.cell (p:=⟨g,k*6+5,none⟩) r).trans b5;obtain⟨a0,a1,a2,a3,a4⟩:=((A.below Q).below q).c5;have q7:=Ah (Ah j6 Q) q;have b:g<w5.heap.size:=AH r J)|(go_at_call 43;refine(Es _ w.heap.size a tq f (by exact q7) N).mono ?_;rintro e w6 ⟨rfl,j⟩;have v6:=j.size;have v8:w6.cell? ⟨rb,0,none⟩=some (.slice (some ⟨g,0,none⟩) cs.length cap):=(((o.below Q).below q).below j).cell 0;have q0:=(j.cell (p:=⟨g,k*6,none⟩) b).trans q0;have q1:=(j.cell (p:=⟨g,k*6+1,none⟩) b).trans q1;have q2:=(j.cell (p:=⟨g,k*6+2,none⟩) b).trans q2;have q3:=(j.cell (p:=⟨g,k*6+3,none⟩) b).trans q3;have q4:=(j.cell (p:=⟨g,k*6+4,none⟩) b).trans q4;have q5:=(j.cell (p:=⟨g,k*6+5,none⟩) b).trans q5)|(at_builtin;refine AF _ rfl _ _ 60 rfl w4.heap.size 71 i1 _ 6 88 underlying60 y7 k0 k1 k2 rfl (by decide) _ m rows.flatten rfl ((Ah n (q.trans (j.mono J))).alloc _) ⟨w6.heap.size,0,none⟩ 1 [.string c.head.w,.slice E c.head.ts.length z,.int .i64 (c.head.pl:Nat),.int .i64 (c.head.af:Nat),.bool c.head.neg,.slice bo c.body.length bcap] rfl rfl (AS _ _ _) (by intro u hu;simp at hu;rcases hu with rfl|rfl|rfl|rfl|rfl|rfl<;>rfl) (by unfold maxLen;omega) (by omega) (by simp;omega) ?_;intro g7 y1 w7 z2 H));have t:=q.trans (j.mono J);have h2:Below w6.heap.size w6 (w6.alloc (.cells #[.string c.head.w,.slice E c.head.ts.length z,.int .i64 (c.head.pl:Nat),.int .i64 (c.head.af:Nat),.bool c.head.neg,.slice bo c.body.length bcap] 71)):=Ac w6 _;have B:=WK (w:=w6.alloc (.cells #[.string c.head.w,.slice E c.head.ts.length z,.int .i64 (c.head.pl:Nat),.int .i64 (c.head.af:Nat),.bool c.head.neg,.slice bo c.body.length bcap] 71)) (w':=w7) (own:=w4.heap.size) (base:=base) (l:=X) (c:=c) (fun i c cs h1 h3=>((h i c cs (by rw[<-S.out];exact h1) h3).below t).below h2) (by rw[q8,d.out]) (by rw[<-d.out];exact(Ah n t).alloc _) ((BT.below (BT.below (w:=wr) ⟨[.string c.head.w,.slice E c.head.ts.length z,.int .i64 (c.head.pl:Nat),.int .i64 (c.head.af:Nat),.bool c.head.neg],_,rfl,⟨_,rfl,M⟩,I⟩ t)) h2) (by rw[<-d.out];exact z2) H;obtain⟨R,W,z4,z5⟩:=B;have j0:Below w4.heap.size w4 w7:=((Q.trans (t.mono z8)).trans (h2.mono (by omega))).grown H (by simp;omega) (A9 n);refine⟨⟨k+1,R,m+1,by omega,by go_num,?_,?_,?_,?_,j0⟩,by simp[intOf];omega⟩
     ·rw[show(X++[c]).length=m+1 by simp[d.out]]at W;exact W
     ·rw[z4];simp[d.out]
     ·exact Ao (by rw[HN.out];simp[d.out])
     ·intro i c' cs' h1 h3;exact z5 i c' cs' (by rw[HN.out]at h1;exact h1) h3
    ·rw[hd]at hq;have HN:=Ao (show(cs.take (k+1)).filter (EH a.shown)=X by rw[Z.out,EH,U,hd];simp);have v4:((bs c.shown).toList==(bs a.shown++⟨#[46]⟩).toList)=true:=by rw[y0.out];exact hq
     clear Z G U hd hq;go_wp2_with (first|(go_at_call 36;refine(Hy _ base c E z bo bcap (by exact M) (by exact I) z7).mono ?_;rintro e w5 ⟨rfl,q⟩;have J:=q.size;have k4:w5.cell? ⟨rb,0,none⟩=some (.slice (some ⟨g,0,none⟩) cs.length cap):=((o.below Q).below q).cell 0;have q0:=(q.cell (p:=⟨g,k*6,none⟩) r).trans b0;have q1:=(q.cell (p:=⟨g,k*6+1,none⟩) r).trans b1;have q2:=(q.cell (p:=⟨g,k*6+2,none⟩) r).trans b2;have q3:=(q.cell (p:=⟨g,k*6+3,none⟩) r).trans b3;have q4:=(q.cell (p:=⟨g,k*6+4,none⟩) r).trans b4;have q5:=(q.cell (p:=⟨g,k*6+5,none⟩) r).trans b5;obtain⟨a0,a1,a2,a3,a4⟩:=((A.below Q).below q).c5;have q7:=Ah (Ah j6 Q) q;have b:g<w5.heap.size:=AH r J)|(go_at_call 43;refine(Es _ w.heap.size a tq f (by exact q7) N).mono ?_;rintro e w6 ⟨rfl,j⟩;have v6:=j.size;have v8:w6.cell? ⟨rb,0,none⟩=some (.slice (some ⟨g,0,none⟩) cs.length cap):=(((o.below Q).below q).below j).cell 0;have q0:=(j.cell (p:=⟨g,k*6,none⟩) b).trans q0;have q1:=(j.cell (p:=⟨g,k*6+1,none⟩) b).trans q1;have q2:=(j.cell (p:=⟨g,k*6+2,none⟩) b).trans q2;have q3:=(j.cell (p:=⟨g,k*6+3,none⟩) b).trans q3;have q4:=(j.cell (p:=⟨g,k*6+4,none⟩) b).trans q4;have q5:=(j.cell (p:=⟨g,k*6+5,none⟩) b).trans q5));have t:=q.trans (j.mono J);refine⟨⟨k+1,rows,m,by omega,by go_num,Ah n t,q8,?_,?_,Q.trans (t.mono z8)⟩,by simp[intOf];omega⟩
     ·exact Ao (by rw[HN.out];exact d.out)
     ·intro i c' cs' h1 h3;exact(h i c' cs' (by rw[HN.out]at h1;rw[<-S.out];exact h1) h3).below t
   ·have U:c.body.isEmpty=false:=by cases hc:c.body with
     |nil=>rw[hc]at G;simp at G
     |cons x y=>rfl
    have v1:(0:Int)<(c.body.length:Int):=by omega
    have v2:0<c.body.length:=by omega
    have HN:=Ao (show(cs.take (k+1)).filter (EH a.shown)=X++[c] by rw[Z.out,EH,U];rfl);clear Z G U;go_wp2_with (first|(go_at_call 36;refine(Hy _ base c E z bo bcap (by exact M) (by exact I) z7).mono ?_;rintro e w5 ⟨rfl,q⟩;have J:=q.size;have k4:w5.cell? ⟨rb,0,none⟩=some (.slice (some ⟨g,0,none⟩) cs.length cap):=((o.below Q).below q).cell 0;have q0:=(q.cell (p:=⟨g,k*6,none⟩) r).trans b0;have q1:=(q.cell (p:=⟨g,k*6+1,none⟩) r).trans b1;have q2:=(q.cell (p:=⟨g,k*6+2,none⟩) r).trans b2;have q3:=(q.cell (p:=⟨g,k*6+3,none⟩) r).trans b3;have q4:=(q.cell (p:=⟨g,k*6+4,none⟩) r).trans b4;have q5:=(q.cell (p:=⟨g,k*6+5,none⟩) r).trans b5;obtain⟨a0,a1,a2,a3,a4⟩:=((A.below Q).below q).c5;have q7:=Ah (Ah j6 Q) q;have b:g<w5.heap.size:=AH r J)|(at_builtin;refine AF _ rfl _ _ 60 rfl w4.heap.size 71 i1 _ 6 88 underlying60 y7 k0 k1 k2 rfl (by decide) _ m rows.flatten rfl ((Ah n q).alloc _) ⟨w5.heap.size,0,none⟩ 1 [.string c.head.w,.slice E c.head.ts.length z,.int .i64 (c.head.pl:Nat),.int .i64 (c.head.af:Nat),.bool c.head.neg,.slice bo c.body.length bcap] rfl rfl (AS _ _ _) (by intro u hu;simp at hu;rcases hu with rfl|rfl|rfl|rfl|rfl|rfl<;>rfl) (by unfold maxLen;omega) (by omega) (by simp;omega) ?_;intro g7 y1 w7 z2 H));have t:=q;have h2:Below w5.heap.size w5 (w5.alloc (.cells #[.string c.head.w,.slice E c.head.ts.length z,.int .i64 (c.head.pl:Nat),.int .i64 (c.head.af:Nat),.bool c.head.neg,.slice bo c.body.length bcap] 71)):=Ac w5 _;have B:=WK (w:=w5.alloc (.cells #[.string c.head.w,.slice E c.head.ts.length z,.int .i64 (c.head.pl:Nat),.int .i64 (c.head.af:Nat),.bool c.head.neg,.slice bo c.body.length bcap] 71)) (w':=w7) (own:=w4.heap.size) (base:=base) (l:=X) (c:=c) (fun i c cs h1 h3=>((h i c cs (by rw[<-S.out];exact h1) h3).below t).below h2) (by rw[q8,d.out]) (by rw[<-d.out];exact(Ah n t).alloc _) ((BT.below (BT.below (w:=wr) ⟨[.string c.head.w,.slice E c.head.ts.length z,.int .i64 (c.head.pl:Nat),.int .i64 (c.head.af:Nat),.bool c.head.neg],_,rfl,⟨_,rfl,M⟩,I⟩ t)) h2) (by rw[<-d.out];exact z2) H;obtain⟨R,W,z4,z5⟩:=B;have j0:Below w4.heap.size w4 w7:=((Q.trans (t.mono z8)).trans (h2.mono (by omega))).grown H (by simp;omega) (A9 n);refine⟨⟨k+1,R,m+1,by omega,by go_num,?_,?_,?_,?_,j0⟩,by simp[intOf];omega⟩
    ·rw[show(X++[c]).length=m+1 by simp[d.out]]at W;exact W
    ·rw[z4];simp[d.out]
    ·exact Ao (by rw[HN.out];simp[d.out])
    ·intro i c' cs' h1 h3;exact z5 i c' cs' (by rw[HN.out]at h1;exact h1) h3
  ·have y8:k=cs.length:=by omega
   rw[y8,AL]at P h;clear y8;go_wp2_with fail;go_ret2;rw[HC.out];have y9:Ck wr base (.slice lo m k3) (cs.filter (EH a.shown)):=⟨rows,by rw[<-P.out];exact BS n (by omega),by rw[q8,P.out],h⟩;refine⟨rfl,⟨_,L.setCell 0 _,y9.set L (by decide) (by decide) (by decide) 0 _,.inr (fun k hk=>?_)⟩,?_⟩
   ·have:=(n.lt k hk).1;omega
   ·exact A3.setCell (A3.ab (y3.trans (Q.mono v7))) (.inl (.inl rfl)) _
theorem UW(w:World)(y:Dl w)(b:0<w.heap.size)(base rb:Nat)(v:Value)(cs:List RC)(g:base<=w.heap.size)(u:Aw w rb [v] 76)(k:Ck w base v cs)(hn:cs.length<=40)(hb:∀c∈cs,c.body.length<=4)(z:∀c∈cs,c.Small)(s:ByteArray)(hs:s.size<=maxLen):
 Calls prog 19 #[.pointer (some ⟨rb,0,none⟩),.string s] w fun e w'=>Gj w base rb v (Cx cs s) e w':=by
 by_cases j:(Cn cs s).1≠0
 ·exact Q5 w y b base rb v cs u k hn hb s hs j
 ·obtain⟨a,hq,hok⟩:=OT (by simpa using j);by_cases q:EV a.ts≠none\/C0 cs a.shown=0
  ·exact Pq w y b base rb v cs u k hn hb z s hs hok a hq q
  ·simp only[not_or,Decidable.not_not]at q;exact Pr w y b base rb v cs g u k hn hb z s hs hok a hq q.1 q.2
end
section
attribute [local go_sem] AE As
open Go.RowKit Go.WideMaps Go.Maps
variable [DecidableEq R3] [DecidableEq A4]
structure Us(M:Int->R3->Prop)(lay:Int->Nat)(N C base tb:Nat)(D:TD)(sb l:Nat)(w:World)(own:Bu)(S:List A1)(nd:List Nat)(k:Nat)(r:Dq)(p g:Nat)(w':World)(own':Bu)(S':List A1)(nd':List Nat):Prop where
 sr:Sr M lay N C base tb D sb l w' own' S' nd'
 grow:Eh S S'
 sub:nd<+:nd'
 aw:BX (Ch sb) own w own' w'
 jd:BO S'=BO S->JD M S' nd' k r p g
def R7(M:Int->R3->Prop)(lay:Int->Nat)(N C base tb:Nat)(D:TD)(sb l k:Nat):Prop:=∀(w:World) (own:Bu) (S:List A1) (nd:List Nat) (r:Dq) (p g:Nat) (t:A1),p+k=r.bj->Sr M lay N C base tb D sb l w own S nd->S[g]? =some t->RJ M lay N C t.q l r p->
 Calls prog 202 #[.pointer (some ⟨sb,0,none⟩),.agg (AG r).toArray,.int .i64 (p:Nat),.pointer (some ⟨t.b,0,none⟩)] w fun e w'=>∃(own':Bu) (S':List A1) (nd':List Nat),e=.returned (.tuple #[])/\Us M lay N C base tb D sb l w own S nd k r p g w' own' S' nd'
def jP(M:Int->R3->Prop)(lay:Int->Nat)(N C base tb:Nat)(D:TD)(sb l k:Nat):Prop:=∀(w:World) (own:Bu) (S:List A1) (nd:List Nat) (r:Dq) (p g:Nat) (t:A1),p+(k+1)=r.bj->p<r.pos->Sr M lay N C base tb D sb l w own S nd->S[g]? =some t->RJ M lay N C t.q l r p->
 Calls prog 222 #[.pointer (some ⟨sb,0,none⟩),.agg (AG r).toArray,.int .i64 (p:Nat),.pointer (some ⟨t.b,0,none⟩)] w fun e w'=>∃(own':Bu) (S':List A1) (nd':List Nat),e=.returned (.tuple #[])/\Us M lay N C base tb D sb l w own S nd (k+1) r p g w' own' S' nd'
theorem KC{w:World}{R:Nat}{r:Dq}{t:TypeId}(h:Aw w R (AG r) t)(p:Nat)(q:p<4):w.cell? ⟨R,4+p*4,none⟩=some (.int .i64 (r.b p).n)/\w.cell? ⟨R,4+p*4+1,none⟩=some (.int .i64 (r.b p).r.a)/\w.cell? ⟨R,4+p*4+2,none⟩=some (.int .i64 (r.b p).r.b)/\w.cell? ⟨R,4+p*4+3,none⟩=some (.int .i64 (r.b p).r.c):=by
 match p,q with
 |0,_=>exact⟨h.cell 4,h.cell 5,h.cell 6,h.cell 7⟩
 |1,_=>exact⟨h.cell 8,h.cell 9,h.cell 10,h.cell 11⟩
 |2,_=>exact⟨h.cell 12,h.cell 13,h.cell 14,h.cell 15⟩
 |3,_=>exact⟨h.cell 16,h.cell 17,h.cell 18,h.cell 19⟩
theorem kM{M:Int->R3->Prop}{lay:Int->Nat}{N C base tb:Nat}{D:TD}(hX:Nn M lay N C D){sb l:Nat}(hF:∀j,j<l->O7 M lay N C base tb D j)(k:Nat)(hJ:∀j,j<k->R7 M lay N C base tb D sb l j)(hP:∀j,j<k->jP M lay N C base tb D sb l j):R7 M lay N C base tb D sb l k:=by
 intro w own S nd r p g t hk h ht i;have B:=Ac w (.cells (AG r).toArray 226);have z:=Aw.new w (AG r) 226;have q4:=i.wf.bj;have q5:=i.wf.pos;obtain⟨V,hT⟩:=h.t
 have A:own w.heap.size=none:=by
  cases e:own w.heap.size with
  |none=>rfl
  |some o=>exact absurd (hT.ok.lt _ o e).2 (by omega)
 go_enter func202,ntmps202;go_upto_region 1 with fail
 generalize w.alloc (Obj.cells (AG r).toArray 226)=w0 at*;have J:=h.below B;have Z:BX (Ch sb) own w own w0:=BX.below B;have q7:=z.lt;have j0:w0.cell? ⟨w.heap.size,21,none⟩=some (.int .i64 (r.bj:Nat)):=z.cell 21;have q9:w0.cell? ⟨w.heap.size,20,none⟩=some (.int .i64 (r.pos:Nat)):=z.cell 20
 cases k with
 |zero=>
  have he:p=r.bj:=by omega
  subst he;have z1:w0.cell? ⟨w.heap.size,1,none⟩=some (.int .i64 r.h.r.a):=z.cell 1;have z2:w0.cell? ⟨w.heap.size,2,none⟩=some (.int .i64 r.h.r.b):=z.cell 2;have z3:w0.cell? ⟨w.heap.size,3,none⟩=some (.int .i64 r.h.r.c):=z.cell 3;have HA:=Ao (mW hX w0 own S nd J g t ht r.h.r (i.done rfl));go_wp2_with (go_at_call 221;refine(HA.out).mono ?_;rintro e w1 ⟨own1,S1,rfl,v⟩)
  go_end0
  exact⟨own1,S1,nd,rfl,⟨v.sr,v.grow,By _,Z.trans v.aw,fun _=>v.inn⟩⟩
 |succ k=>
  have f:p<r.bj:=by omega
  have hb:((p:Int)==(r.bj:Int))=false:=by simp;omega
  have q6:¬p=r.bj:=by omega
  by_cases U:p<r.pos
  ·have HP:=Ao (hP k (by omega) w0 own S nd r p g t hk U J ht i);have hd:decide ((p:Int)<(r.pos:Int))=true:=by simp;omega
   go_wp2_with (first|(refine CK rfl 226 (.tmp 5) rfl w.heap.size rfl 226 (AG r).toArray (0,0) _ z underlying226 rfl Et ?_)|(go_at_call 222;refine(HP.out).mono ?_;rintro e w1 ⟨own1,S1,q2,rfl,v⟩))
   go_end0
   exact⟨own1,S1,q2,rfl,⟨v.sr,v.grow,v.sub,Z.trans v.aw,v.jd⟩⟩
  ·have hd:decide ((p:Int)<(r.pos:Int))=false:=by simp;omega
   have K:r.pos<=p:=by omega
   have hq:YQ N C (r.b p):=⟨i.names p f,fun y hy=>i.small.2 p y hy⟩;obtain⟨V0,O⟩:=J.t;obtain⟨mv,lv,G⟩:=J.s;have HH:=Ao (gJ (hF _ ((i.lay p f).2 K)) w0.drew own S (r.b p) ⟨V0,O.below ((Ag _ w0).drew)⟩ J.inv hq (Ab _) (i.dc K f));obtain⟨b0,b1,b2,b3⟩:=KC z p (by omega);have s0:w0.cell? ⟨sb,0,none⟩=some (.pointer (some ⟨tb,0,none⟩)):=G.al.cell 0;have q8:=G.al.lt;go_wp2_with fail
   go_cut [36] from 27 to 42 (fun x wx=>∃(b:Bool) (own1:Bu) (S1:List A1),x=.bool (!b)/\(b=true↔M (r.b p).n (r.b p).r)/\Tb base tb D wx own1 S1/\Hf M N C S1/\Eh S S1/\BX Sf own w0 own1 wx)
   case first=>
    go_region_with (go_at_call 223;refine(HH.out).mono ?_;rintro e w1 ⟨b,own1,S1,rfl,g1,g2,g3,g4,g5⟩)
    all_goals go_wp2_with fail
    all_goals go_meet
    all_goals exact⟨b,own1,S1,rfl,g1,g2,g3,g4,(BX.below (Ag _ w0).drew).trans g5⟩
   case rest=>
    clear HH;obtain⟨b,own1,S1,rfl,hM,I,P,d,Y⟩:=hcut;obtain⟨w1,q1⟩:∃x:World,x=wc:=⟨wc,rfl⟩;subst q1;have E:=z.aw Y A
    have h1:Sr M lay N C base tb D sb l w1 own1 S1 nd:=⟨I,⟨mv,lv,G.aw Y (Wy sb)⟩,P,J.nn,fun j hj=>by
     obtain⟨u,hu,q0⟩:=J.nd j hj;obtain⟨u',W,m⟩:=d.at' j u hu
     exact⟨u',W,by rw[m.q];exact q0⟩⟩
    have Q:=Z.trans (Y.mono (Sf.ch sb));obtain⟨t1,H,m⟩:=d.at' g t ht
    cases b with
    |true=>
     go_wp2_with fail
     go_end0
     refine⟨rfl,own1,S1,nd,⟨h1,d,By _,Q,fun _=>?_⟩⟩;unfold JD;rw[Af U];exact .inl (by simpa using hM)
    |false=>
     have X:¬M (r.b p).n (r.b p).r:=fun e=>by simpa using hM.2 e
     have L:RJ M lay N C t1.q l r (p+1):=by rw[m.q];exact i.neg K f X
     have HJ:=Ao (hJ k (by omega) w1 own1 S1 nd r (p+1) g t1 (by omega) h1 H L);rw[m.b]at HJ;go_wp2_with (first|(refine CK rfl 226 (.tmp 5) rfl w.heap.size rfl 226 (AG r).toArray (0,0) _ E underlying226 rfl Et ?_)|(go_at_call 202;refine(HJ.out).mono ?_;rintro e w2 ⟨R,S2,q3,rfl,v⟩))
     go_end0
     refine⟨R,S2,q3,rfl,⟨v.sr,d.trans v.grow,v.sub,Q.trans v.aw,fun e=>?_⟩⟩;unfold JD;rw[Af U];have e1:=d.size;have e2:=v.grow.size;exact .inr (v.jd (by omega))
end
section
attribute [local go_sem] AE As
open Go.RowKit Go.WideMaps Go.Maps
variable [DecidableEq R3] [DecidableEq A4]
theorem Wz{w:World}{own:Bu}{base tb:Nat}{V:TV}{D:TD}{qs:List A4}{S:List A1}{sz vb:Nat}(h:Fi w own base tb V D qs S sz)(hn:own vb=none)(hb:base<=vb)(j:Aw w vb [.map none,.slice none 0 0] 178):Fi w (Cj own (5,0) vb) base tb V D qs S sz/\GW w (Cj own (5,0) vb) base vb [] (.map none) (.slice none 0 0):=by
 have y:EM vb own (Cj own (5,0) vb):=by
  refine⟨fun q o e=>?_,fun q o e=>?_⟩
  ·unfold Cj;rw[Af (fun z=>by rw[z,hn]at e;cases e)];exact e
  ·unfold Cj at e
   split at e
   ·exact .inr (by omega)
   ·exact .inl e
 have hl:=j.lt
 have k:He (Cj own (5,0) vb) base w:=by
  refine⟨fun q o e=>?_,h.ok.base,fun q s e=>?_⟩
  ·unfold Cj at e
   split at e
   ·omega
   ·exact h.ok.lt q o e
  ·unfold Cj at e
   split at e
   ·simp at e
   ·exact h.ok.se q s e
 exact⟨h.only (P:=fun _=>False) (A3.ab (Ag _ _)) y k (fun _ _ _ _ _ e=>e),⟨j,Cu.nil _ _,N3 _ _ _,D6.bw _ _,D6.bh _ _⟩⟩
theorem BX.fm{own own':Bu}{base:Nat}{w w0 w':World}{vb:Nat}(z:He own base w)(hb:Below w.heap.size w w0)(hs:w.heap.size<=vb)(h:BX UC (Cj own (5,0) vb) w0 own' w'):BX UC own w own' w':=by
 refine⟨(A3.ab (S:=nU own UC) hb).trans h.only ?_,⟨fun q o e=>h.ext.br q o ?_,fun q o e=>?_⟩⟩
 ·rintro q hq ⟨o,e,c⟩;unfold Cj at e;rw[Af (by omega)]at e;exact⟨o,e,c⟩
 ·have:=(z.lt q o e).2;unfold Cj;rw[Af (by omega)];exact e
 ·rcases h.ext.new q o e with j|j
  ·unfold Cj at j
   split at j
   ·exact .inr (by omega)
   ·exact .inl j
  ·exact .inr (Ay hb.size j)
theorem Yr(h:A4)(xs:List A4)(pos:Nat)(a:A4)(q:xs.length<4):(((((AG (Y3 h xs pos)).set (4+xs.length*4) (.int .i64 a.n)).set (4+xs.length*4+1) (.int .i64 a.r.a)).set (4+xs.length*4+2) (.int .i64 a.r.b)).set (4+xs.length*4+3) (.int .i64 a.r.c)).set 21 (.int .i64 ((xs.length+1:Nat):Int))=AG (Y3 h (xs++[a]) pos):=by
 match xs,q with
 |[],_=>rfl
 |[_],_=>rfl
 |[_,_],_=>rfl
 |[_,_,_],_=>rfl
 |_::_::_::_::_,h=>simp at h;omega
theorem T6(h:A4)(xs:List A4)(pos:Nat)(a:A4)(q:xs.length<4):(((((AG (Y3 h xs pos)).set (4+xs.length*4) (.int .i64 a.n)).set (4+xs.length*4+1) (.int .i64 a.r.a)).set (4+xs.length*4+2) (.int .i64 a.r.b)).set (4+xs.length*4+3) (.int .i64 a.r.c))[21]? =some (.int .i64 (xs.length:Nat)):=by
 match xs,q with
 |[],_=>rfl
 |[_],_=>rfl
 |[_,_],_=>rfl
 |[_,_,_],_=>rfl
 |_::_::_::_::_,h=>simp at h;omega
theorem Ys(h:A4)(xs:List A4)(pos q:Nat):(AG (Y3 h xs pos)).set 20 (.int .i64 (q:Nat))=AG (Y3 h xs q):=rfl
theorem jU(b:Nat)(h:b<2):[Value.bool false,.bool true][b]? =some (.bool (decide (b=1))):=by
 match b,h with
 |0,_=>rfl
 |1,_=>rfl
theorem Vx(L X:List BQ)(b:Nat)(h:b<2):(if b=0 then [] else if b=1 then L.filter (fun l=> !l.neg) else X)=Eu L (decide (b=1)) 0:=by
 match b,h with
 |0,_=>rfl
 |1,_=>simp[Eu]
structure Pb(base base' tb vb K O P:Nat)(D:TD)(qs:List A4)(S:List A1)(sz:Nat)(d:Bd)(bo:Option Addr)(bcap:Nat)(x0:W3)(own0:Bu)(W:World)(L:List BQ)(ck:List Value)(wr:World)(own3:Bu):Prop where
 t:∃V3,Fi wr own3 base tb V3 ⟨D.m0,D.m1,D.ru,(Ej x0 L).1,(Ej x0 L).2.1,D.rules⟩ qs S sz
 v:∃mv lv,GW wr own3 base vb (Ej x0 L).2.2 mv lv
 k:Aw wr K ck 226
 o:Aw wr O zU 226
 p:Aw wr P [.string d.nm,.int .i64 d.cn,.string (d.t 0),.string (d.t 1),.string (d.t 2),.slice bo d.lits.length bcap] 86
 l:wr.ownsRow base' 186 6 (.slice bo d.lits.length bcap) d.lits.length (d.lits.flatMap BQ.cells)
 nk:own3 K=none
 no:own3 O=none
 np:own3 P=none
 nl:∀q,(Value.slice bo d.lits.length bcap).ownBlock=some q->own3 q=none
 aw:BX UC own0 W own3 wr
section
variable {base base' tb vb K O P:Nat} {D:TD} {qs:List A4} {S:List A1} {sz:Nat} {d:Bd} {bo:Option Addr} {bcap:Nat} {x0:W3} {own0:Bu} {W:World} {L:List BQ} {ck:List Value} {wr w':World} {own3:Bu}
theorem Pb.below(h:Pb base base' tb vb K O P D qs S sz d bo bcap x0 own0 W L ck wr own3)(hb:Below wr.heap.size wr w'):Pb base base' tb vb K O P D qs S sz d bo bcap x0 own0 W L ck w' own3:=by obtain⟨q,j⟩:=h.t;obtain⟨mv,lv,z⟩:=h.v;exact⟨⟨q,j.below hb⟩,⟨mv,lv,z.below hb⟩,h.k.below hb,h.o.below hb,h.p.below hb,Ah h.l hb,h.nk,h.no,h.np,h.nl,h.aw.bm hb⟩
theorem Pb.ff(h:Pb base base' tb vb K O P D qs S sz d bo bcap x0 own0 W L ck wr own3)(hK:W.heap.size<=K)(u:K≠O)(j:A3 (fun q=>q=K) wr w'){z:List Value}(m:Aw w' K z 226):Pb base base' tb vb K O P D qs S sz d bo bcap x0 own0 W L z w' own3:=by
 obtain⟨r,b⟩:=h.t;obtain⟨mv,lv,n⟩:=h.v;have y:∀q o,own3 q=some o->¬q=K:=fun q o e c=>by rw[c,h.nk]at e;cases e
 have g:P≠K:=fun e=>by have:=h.p;rw[e]at this;unfold Aw at this;rw[h.k]at this;simp at this
 exact⟨⟨r,b.only j (.refl 0 _) (b.ok.below j.size) (fun q o e _ _=>y q o e)⟩,⟨mv,lv,n.only j (.refl 0 _) (fun q e=>y q _ e)⟩,m,h.o.only j (FG u),h.p.only j g,BI h.l j (fun q hq e=>Av h.l h.k (by decide) (e▸hq)),h.nk,h.no,h.np,h.nl,⟨h.aw.only.trans j (fun q hq e=>by omega),h.aw.ext⟩⟩
end
theorem VJ{w:World}{own:Bu}{base base' tb:Nat}{V:TV}{D:TD}{qs:List A4}{S:List A1}{sz:Nat}(h:Fi w own base tb V D qs S sz)(d:Bd)(bo:Option Addr)(bcap:Nat)(hb:w.ownsRow base' 186 6 (.slice bo d.lits.length bcap) d.lits.length (d.lits.flatMap BQ.cells))(y9:∀q,(Value.slice bo d.lits.length bcap).ownBlock=some q->own q=none)(z2:d.WF)(hc:D.ae.length<=10000)(d4:D.names.length<=10000):
 Calls prog 112 #[.pointer (some ⟨tb,2,none⟩),.agg #[.string d.nm,.int .i64 d.cn,.string (d.t 0),.string (d.t 1),.string (d.t 2),.slice bo d.lits.length bcap]] w fun e w'=>∃(own':Bu) (V':TV),e=.returned (.agg (AG (ED (B5 D.names D.ae d).1 (B5 D.names D.ae d).2.1 (B5 D.names D.ae d).2.2 d)).toArray)/\
  Fi w' own' base tb V' ⟨D.m0,D.m1,D.ru,(B5 D.names D.ae d).1,(B5 D.names D.ae d).2.1,D.rules⟩ qs S sz/\BX UC own w own' w':=by
 have L:∀q,w.heap.size<=q->own q=none:=by
  intro q hq
  cases e:own q with
  |none=>rfl
  |some o=>exact absurd (h.ok.lt _ o e).2 (by omega)
 have d0:=h.ok.base;obtain⟨W,HW⟩:∃W:World,Hid (W=((w.alloc (.cells #[.string d.nm,.int .i64 d.cn,.string (d.t 0),.string (d.t 1),.string (d.t 2),.slice bo d.lits.length bcap] 86)).alloc (.cells zU.toArray 226)).alloc (.cells #[.map none,.slice none 0 0] 178)):=⟨_,rfl⟩;have q3:Below w.heap.size w W:=by rw[HW.out];exact(((Ag w.heap.size w).alloc (Ab _) _).alloc (by simp) _).alloc (by simp;omega) _
 have B:Aw W w.heap.size [.string d.nm,.int .i64 d.cn,.string (d.t 0),.string (d.t 1),.string (d.t 2),.slice bo d.lits.length bcap] 86:=by rw[HW.out];exact((Aw.new w _ _).alloc _).alloc _
 have j7:Aw W (w.heap.size+1) zU 226:=by rw[HW.out];have:=(Aw.new (w.alloc (.cells #[.string d.nm,.int .i64 d.cn,.string (d.t 0),.string (d.t 1),.string (d.t 2),.slice bo d.lits.length bcap] 86)) zU 226).alloc (.cells #[.map none,.slice none 0 0] 178);simp only[C8]at this;exact this
 have j9:Aw W (w.heap.size+1+1) [.map none,.slice none 0 0] 178:=by rw[HW.out];have:=Aw.new ((w.alloc (.cells #[.string d.nm,.int .i64 d.cn,.string (d.t 0),.string (d.t 1),.string (d.t 2),.slice bo d.lits.length bcap] 86)).alloc (.cells zU.toArray 226)) [.map none,.slice none 0 0] 178;simp only[C8]at this;exact this
 obtain⟨h0,v0⟩:=Wz (h.below q3) (L _ (by omega)) (by omega) j9
 have q9:∀(ts:List B8),(∀t∈ts,t.length<=12)->∀i,(AO ts i).length<=12:=by
  intro ts g1 i;unfold AO;rw[Ap]
  cases e:ts[i]? with
  |none=>simp
  |some t=>exact g1 t (AP e)
 have v3:=z2.words (d.name,d.ts) (by simp[Bd.atoms]);have HC:=Ao (K8 h0 v0 d.name d.ts d.cn v3.1 (q9 _ v3.2.2) (by omega) (by omega) (by simp));obtain⟨x0,q1⟩:∃x0,Hid (x0=CY (D.names,D.ae,[]) d.name d.ts):=⟨_,rfl⟩;obtain⟨a0,z5⟩:∃a0,Hid (a0=CX x0.1 x0.2.1 x0.2.2 d.name d.ts):=⟨_,rfl⟩;rw[<-q1.out,<-z5.out]at HC
 have z8:Calls prog 150 #[.pointer (some ⟨tb,2,none⟩),.agg #[.string d.nm,.int .i64 d.cn,.string (d.t 0),.string (d.t 1),.string (d.t 2)],.pointer (some ⟨w.heap.size+1+1,0,none⟩)] W fun e w'=>∃(own':Bu) (V':TV) (z4 lv':Value),e=.returned (.agg #[.int .i64 a0.n,.int .i64 a0.r.a,.int .i64 a0.r.b,.int .i64 a0.r.c])/\
  Fi w' own' base tb V' ⟨D.m0,D.m1,D.ru,x0.1,x0.2.1,D.rules⟩ qs S sz/\GW w' own' base (w.heap.size+1+1) x0.2.2 z4 lv'/\BX UC (Cj own (5,0) (w.heap.size+1+1)) W own' w':=HC.out
 have HC:=Ao z8;clear z8;go_enter func112,ntmps112;go_upto_region 2 with fail
 generalize y7:(((w.alloc (.cells #[.string d.nm,.int .i64 d.cn,.string (d.t 0),.string (d.t 1),.string (d.t 2),.slice bo d.lits.length bcap] 86)).alloc (.cells #[.int .i64 0,.int .i64 0,.int .i64 0,.int .i64 0,.int .i64 0,.int .i64 0,.int .i64 0,.int .i64 0,.int .i64 0,.int .i64 0,.int .i64 0,.int .i64 0,.int .i64 0,.int .i64 0,.int .i64 0,.int .i64 0,.int .i64 0,.int .i64 0,.int .i64 0,.int .i64 0,.int .i64 0,.int .i64 0] 226)).alloc (.cells #[.map none,.slice none 0 0] 178))=W';have v8:W'=W:=y7.symm.trans HW.out.symm;subst v8;clear y7 HW;have u6:=B.lt;have p0:W'.cell? ⟨w.heap.size,0,none⟩=some (.string d.nm):=B.cell 0;have p1:W'.cell? ⟨w.heap.size,1,none⟩=some (.int .i64 d.cn):=B.cell 1;have p2:W'.cell? ⟨w.heap.size,2,none⟩=some (.string (d.t 0)):=B.cell 2;have p3:W'.cell? ⟨w.heap.size,3,none⟩=some (.string (d.t 1)):=B.cell 3;have p4:W'.cell? ⟨w.heap.size,4,none⟩=some (.string (d.t 2)):=B.cell 4;go_upto_region 3 with(first|(go_at_call 150;refine(HC.out).mono ?_;rintro e w1 ⟨own1,V1,g7,g5,rfl,j8,v1,Z⟩)|(refine Fp rfl 226 (.tmp 6) (.tmp 15) rfl (AG ⟨a0,Pg,Pg,Pg,Pg,0,0⟩) rfl rfl Et rfl (Mk _) ?_;intro w2 j3 Q g0));clear HC p0 p1 p2 p3 p4
 have q6:∀q,w.heap.size<=q->q≠w.heap.size+1+1->Cj own (5,0) (w.heap.size+1+1) q=none:=fun q h1 h2=>by unfold Cj;rw[Af h2];exact L q h1
 have k0:∀q,(Value.slice bo d.lits.length bcap).ownBlock=some q->Cj own (5,0) (w.heap.size+1+1) q=none:=fun q hq=>by unfold Cj;rw[Af (by have:=(hb.lt q hq).2;omega)];exact y9 q hq
 have y4:=(B.aw Z (q6 _ (by omega) (by omega))).below Q;have y2:=(j7.aw Z (q6 _ (by omega) (by omega))).below Q
 have y0:=Ah (BI (Ah hb q3) Z.only (fun q hq=>by
  rintro⟨o,e,_⟩;rw[k0 q hq]at e
  cases e)) Q
 have k9:=Z.none u6 (q6 _ (by omega) (by omega));have k8:=Z.none j7.lt (q6 _ (by omega) (by omega));have k7:∀q,(Value.slice bo d.lits.length bcap).ownBlock=some q->own1 q=none:=fun q hq=>Z.none (by have:=(hb.lt q hq).2;have:=q3.size;omega) (k0 q hq);have y5:=j8.below Q;have v2:=v1.below Q;have y6:=Z.bm Q
 have z1:own1 w1.heap.size=none:=by
  cases e:own1 w1.heap.size with
  |none=>rfl
  |some o=>exact absurd (j8.ok.lt _ o e).2 (by omega)
 have j0:=Z.only.size;obtain⟨K,HK⟩:∃K,Hid (K=w1.heap.size):=⟨_,rfl⟩;have j6:W'.heap.size<=K:=by rw[HK.out];exact j0
 have b5:=j9.lt;rw[<-HK.out]at j3 z1⊢;clear j8 v1 Z B j7 h0 v0 j9 Q g0 HK j0 hb y9;have q4:Pb base base' tb (w.heap.size+1+1) K (w.heap.size+1) w.heap.size D qs S sz d bo bcap x0 (Cj own (5,0) (w.heap.size+1+1)) W' [] (AG (Y3 a0 [] 0)) w2 own1:=⟨⟨V1,y5⟩,⟨g7,g5,v2⟩,j3,y2,y4,y0,z1,k8,k9,k7,y6⟩;clear y5 v2 j3 y2 y4 y0 z1 k8 k9 k7 y6;have d2:=q4.k.lt;have j5:K≠w.heap.size+1:=by omega
 go_wp2_with fail
 go_loopw [18] (fun iv wr=>∃(b:Nat) (own3:Bu),b<=2/\iv=.int .i64 (b:Nat)/\Pb base base' tb (w.heap.size+1+1) K (w.heap.size+1) w.heap.size D qs S sz d bo bcap x0 (Cj own (5,0) (w.heap.size+1+1)) W' (if b=0 then [] else if b=1 then d.lits.filter (fun l=> !l.neg) else d.sorted) (AG (Y3 a0 (H7 x0 (if b=0 then [] else if b=1 then d.lits.filter (fun l=> !l.neg) else d.sorted)) (if b=0 then 0 else(d.lits.filter (fun l=> !l.neg)).length))) wr own3/\Aw wr w2.heap.size [.bool false,.bool true] 4/\own3 w2.heap.size=none) (fun iv _=>2-(intOf iv).toNat)
 case atStart=>
  have v5:=Ac w2 (.cells #[.bool false,.bool true] 4);obtain⟨V9,v7⟩:=q4.t;refine⟨0,own1,by omega,rfl,q4.below v5,Aw.new w2 _ _,?_⟩
  cases e:own1 w2.heap.size with
  |none=>rfl
  |some o=>exact absurd (v7.ok.lt _ o e).2 (by omega)
 case round=>
  clear q4;obtain⟨b,own3,b9,rfl,u,m,R⟩:=hrel;have k3:=u.p.lt;have k1:=u.k.lt;have k4:=m.lt;by_cases k5:b<2
  ·obtain⟨bb,q0⟩:∃bb:Bool,Hid (bb=decide (b=1)):=⟨_,rfl⟩;have u3:wr.cell? ⟨w2.heap.size,b,none⟩=some (.bool bb):=by rw[m.cell b,q0.out];exact jU b k5
   have z9:=Vx d.lits d.sorted b k5;rw[<-q0.out]at z9;rw[z9]at u;have hd:decide ((b:Int)<2)=true:=by simp;omega
   have p5:wr.cell? ⟨w.heap.size,5,none⟩=some (.slice bo d.lits.length bcap):=u.p.cell 5;obtain⟨po,z7⟩:∃po,Hid (po=(if b=0 then 0 else(d.lits.filter (fun l=> !l.neg)).length)):=⟨_,rfl⟩;rw[<-z7.out]at u;go_wp2_with fail
   go_loopw [25] (fun kv wx=>∃(k:Nat) (J:Bu),kv=.int .i64 (k:Nat)/\k<=d.lits.length/\Pb base base' tb (w.heap.size+1+1) K (w.heap.size+1) w.heap.size D qs S sz d bo bcap x0 (Cj own (5,0) (w.heap.size+1+1)) W' (Eu d.lits bb k) (AG (Y3 a0 (H7 x0 (Eu d.lits bb k)) po)) wx J/\Aw wx w2.heap.size [.bool false,.bool true] 4/\J w2.heap.size=none) (fun kv _=>d.lits.length-(intOf kv).toNat)
   case atStart=>exact⟨0,own3,rfl,Cq _,u,m,R⟩
   case round=>as_aux_lemma=>
    clear u m R u3 p5 k3 k1 k4;obtain⟨k,J,rfl,hk,j,m,R⟩:=hrel;have g9:=j.k.lt;have b4:=m.lt;by_cases O:k<d.lits.length
    ·have u4:decide ((k:Int)<(d.lits.length:Int))=true:=by simp;omega
     obtain⟨g,rfl,hg,l0,l1,l2,l3,l4,l5⟩:=Jq j.l k O;have M:=Ao (VD d.lits bb k O);have u7:=Aj O;generalize d.lits[k]=li at*;have d3:=z2.lits;have d1:=Qw d.lits bb k;obtain⟨xs,q2⟩:∃xs,Hid (xs=H7 x0 (Eu d.lits bb k)):=⟨_,rfl⟩;have v4:=Ao (show xs.length=(Eu d.lits bb k).length by rw[q2.out];exact Kt _ _);rw[<-q2.out]at j;by_cases I:li.neg=bb
     ·rw[Ai I]at M;have u2:(li.neg==bb)=true:=by simp[I]
      clear I;have k6:=z2.words (li.name,li.ts) (by simp only[Bd.atoms];exact E4 _ (List.mem_map.2 ⟨li,u7,rfl⟩));have Y:=Qg x0 (Eu d.lits bb k);have C:iQ (D.names,D.ae,[]) x0 1:=by rw[q1.out];exact KF _ _ _
      have e1:=Y.a;have e2:=Y.b;have e3:=Y.c;have e4:=C.a;have e5:=C.b;have e6:=C.c;simp only[List.length_nil]at e4 e5 e6;obtain⟨y,HY⟩:∃y,Hid (y=CY (Ej x0 (Eu d.lits bb k)) li.name li.ts):=⟨_,rfl⟩;obtain⟨a,HA⟩:∃a,Hid (a=CX y.1 y.2.1 y.2.2 li.name li.ts):=⟨_,rfl⟩;obtain⟨V4,X⟩:=j.t;obtain⟨d8,d6,g2⟩:=j.v
      have HC:∀W5,Below wr.heap.size wr W5->Calls prog 150 #[.pointer (some ⟨tb,2,none⟩),.agg #[.string li.nm,.int .i64 li.cn,.string (li.t 0),.string (li.t 1),.string (li.t 2)],.pointer (some ⟨w.heap.size+1+1,0,none⟩)] W5 fun e w'=>∃(own':Bu) (V':TV) (z4 lv':Value),e=.returned (.agg #[.int .i64 a.n,.int .i64 a.r.a,.int .i64 a.r.b,.int .i64 a.r.c])/\
           Fi w' own' base tb V' ⟨D.m0,D.m1,D.ru,y.1,y.2.1,D.rules⟩ qs S sz/\GW w' own' base (w.heap.size+1+1) y.2.2 z4 lv'/\BX UC J W5 own' w':=by
          intro W5 y8;have:=K8 (X.below y8) (g2.below y8) li.name li.ts li.cn k6.1 (q9 _ k6.2.2) (by simp only;omega) (by simp only;omega) (by omega);have e9:((Ej x0 (Eu d.lits bb k)).1,(Ej x0 (Eu d.lits bb k)).2.1,(Ej x0 (Eu d.lits bb k)).2.2)=Ej x0 (Eu d.lits bb k):=rfl;simp only[e9]at this;rw[<-HY.out,<-HA.out]at this;exact this
      have H:xs.length<4:=by have:=Qw d.lits bb (k+1);rw[M.out,Am]at this;have hx:=v4.out;simp at this;omega
      clear e1 e2 e3 e4 e5 e6 Y C;have b7:¬(4:Int)<=(xs.length:Int):=by omega
      have j2:=Ac wr (.cells #[.string li.nm,.int .i64 li.cn,.string (li.t 0),.string (li.t 1),.string (li.t 2),.bool li.neg] 186);have z:=j.below j2.drew;have q7:=m.below j2.drew;have d5:wr.cell? ⟨K,21,none⟩=some (.int .i64 (xs.length:Nat)):=j.k.cell 21;have b6:=z.k.lt;go_upto_region 10 with fail
      go_cut [] from 33 to 45 (fun wx=>∃j1,Pb base base' tb (w.heap.size+1+1) K (w.heap.size+1) w.heap.size D qs S sz d (some ⟨g,0,none⟩) bcap x0 (Cj own (5,0) (w.heap.size+1+1)) W' (Eu d.lits bb (k+1)) (((((AG (Y3 a0 xs po)).set (4+xs.length*4) (.int .i64 a.n)).set (4+xs.length*4+1) (.int .i64 a.r.a)).set (4+xs.length*4+2) (.int .i64 a.r.b)).set (4+xs.length*4+3) (.int .i64 a.r.c)) wx j1/\Aw wx w2.heap.size [.bool false,.bool true] 4/\j1 w2.heap.size=none)
      case first=>as_aux_lemma=>
          go_region_with (go_at_call 150;refine(HC _ (by exact j2.drew)).mono ?_;rintro e w6 ⟨own6,V6,g8,g6,rfl,v6,g3,f⟩;have P:=z.k.aw f z.nk;have fK:=P.frozen;have k2:=P.lt;have b8:w6.cell? ⟨K,21,none⟩=some (.int .i64 (xs.length:Nat)):=P.cell 21;obtain⟨b0,b1,b2,b3⟩:=KC P xs.length H)
          all_goals go_wp2_with fail
          all_goals go_meet
          all_goals
           have q5:=f.none z.k.lt z.nk;have y1:∀q o,own6 q=some o->¬q=K:=fun q o e e'=>by rw[e',q5]at e;cases e
           have s:A3 (fun q=>q=K) w6 ((((w6.setCell ⟨K,4+xs.length*4,none⟩ (.int .i64 a.n)).setCell ⟨K,4+xs.length*4+1,none⟩ (.int .i64 a.r.a)).setCell ⟨K,4+xs.length*4+2,none⟩ (.int .i64 a.r.b)).setCell ⟨K,4+xs.length*4+3,none⟩ (.int .i64 a.r.c)):=((((A3.ab (S:=fun q=>q=K) (Ag _ _)).setCell (p:=⟨K,4+xs.length*4,none⟩) (.inl rfl) _).setCell (p:=⟨K,4+xs.length*4+1,none⟩) (.inl rfl) _).setCell (p:=⟨K,4+xs.length*4+2,none⟩) (.inl rfl) _).setCell (p:=⟨K,4+xs.length*4+3,none⟩) (.inl rfl) _;have q8:Ej x0 (Eu d.lits bb (k+1))=y:=by rw[M.out,Vh,HY.out]
           have G:Pb base base' tb (w.heap.size+1+1) K (w.heap.size+1) w.heap.size D qs S sz d (some ⟨g,0,none⟩) bcap x0 (Cj own (5,0) (w.heap.size+1+1)) W' (Eu d.lits bb (k+1)) (AG (Y3 a0 xs po)) w6 own6:=by refine⟨⟨V6,by rw[q8];exact v6⟩,⟨g8,g6,by rw[q8];exact g3⟩,P,z.o.aw f z.no,z.p.aw f z.np,BI z.l f.only (fun q hq=>?_),q5,f.none z.o.lt z.no,f.none z.p.lt z.np,fun q hq=>f.none (z.l.lt q hq).2 (z.nl q hq),z.aw.trans f⟩;rintro⟨o,e,_⟩;rw[z.nl q hq]at e;cases e
           have U:=q7.aw f R;have N:w2.heap.size≠K:=fun e=>by have:=U;rw[e]at this;unfold Aw at this;rw[P]at this;simp at this
           exact⟨own6,G.ff j6 j5 s ((((P.setCell _ _).setCell _ _).setCell _ _).setCell _ _),U.only s N,f.none q7.lt R⟩
      case rest=>
          obtain⟨own6,G,U,q5⟩:=hcut;obtain⟨w6,g4⟩:∃x:World,x=wc:=⟨wc,rfl⟩;subst g4;have k2:=G.k.lt;have z3:w6.cell? ⟨K,21,none⟩=some (.int .i64 (xs.length:Nat)):=(G.k.cell 21).trans (T6 a0 xs po a H);have fK:=G.k.frozen;have N:w2.heap.size≠K:=fun e=>by have:=U;rw[e]at this;unfold Aw at this;rw[G.k]at this;simp at this
          go_wp2_with fail;have s:A3 (fun q=>q=K) w6 (w6.setCell ⟨K,21,none⟩ (.int .i64 ((xs.length+1:Nat):Int))):=(A3.ab (S:=fun q=>q=K) (Ag _ _)).setCell (p:=⟨K,21,none⟩) (.inl rfl) _;have A:=G.k.setCell 21 (.int .i64 ((xs.length+1:Nat):Int));rw[Yr a0 xs po a H,show xs++[a]=H7 x0 (Eu d.lits bb (k+1)) by rw[M.out,Vi,<-q2.out,<-HY.out,<-HA.out]]at A;rw[show((xs.length:Int)+1)=((xs.length+1:Nat):Int) by omega];exact⟨⟨k+1,own6,by go_num,O,G.ff j6 j5 s A,U.only s N,q5⟩,by simp[intOf];omega⟩
     ·rw[Af I]at M;have u2:(li.neg==bb)=false:=by simp[I]
      go_wp2_with fail;refine⟨⟨k+1,J,by go_num,O,?_,m.alloc _,R⟩,by simp[intOf];omega⟩;rw[M.out,<-q2.out];exact j.below (Ac wr _)
    ·have u4:decide ((k:Int)<(d.lits.length:Int))=false:=by simp;omega
     have u5:k=d.lits.length:=by omega
     subst u5;have z3:wr.cell? ⟨K,21,none⟩=some (.int .i64 ((H7 x0 (Eu d.lits bb d.lits.length)).length:Nat)):=j.k.cell 21;have d7:wr.cell? ⟨K,20,none⟩=some (.int .i64 (po:Nat)):=j.k.cell 20;have fK:=j.k.frozen;have N:w2.heap.size≠K:=fun e=>by have:=m;rw[e]at this;unfold Aw at this;rw[j.k]at this;simp at this
     rw[Kt]at z3
     cases bb with
     |false=>
      have v9:b=0:=by have:=q0.out;simp at this;omega
      subst v9;have z0:Eu d.lits false d.lits.length=d.lits.filter (fun l=> !l.neg):=by simp[Eu]
      rw[z0]at j z3;go_wp2_with fail;have s:A3 (fun q=>q=K) wr (wr.setCell ⟨K,20,none⟩ (.int .i64 ((d.lits.filter (fun l=> !l.neg)).length:Nat))):=(A3.ab (S:=fun q=>q=K) (Ag _ _)).setCell (p:=⟨K,20,none⟩) (.inl rfl) _;have A:=j.k.setCell 20 (.int .i64 ((d.lits.filter (fun l=> !l.neg)).length:Nat));rw[Ys]at A;exact⟨⟨1,J,by omega,rfl,j.ff j6 j5 s A,m.only s N,R⟩,by simp[intOf]⟩
     |true=>
      have u0:b=1:=by have:=q0.out;simp at this;exact this
      subst u0;have z0:Eu d.lits true d.lits.length=d.sorted:=by simp[Eu,Bd.sorted]
      rw[z0]at j;have u8:po=(d.lits.filter (fun l=> !l.neg)).length:=by rw[z7.out];simp
      rw[u8]at j;go_wp2_with fail;exact⟨⟨2,J,by omega,rfl,j,m,R⟩,by simp[intOf]⟩
  ·have u1:b=2:=by omega
   subst u1;rw[show((2:Nat):Int)=2 from rfl];simp only[Af (show ¬(2:Nat)=0 by omega),Af (show ¬(2:Nat)=1 by omega)]at u;have hq:=Xt D.names D.ae d;rw[<-q1.out,<-z5.out]at hq;have j4:=u.k;rw[hq]at j4;have y3:=u.o;obtain⟨V4,X⟩:=u.t;have u9:Ej x0 d.sorted=B5 D.names D.ae d:=by rw[q1.out];rfl
   rw[u9]at X;obtain⟨q,HQ⟩:∃q,Hid (q=ED (B5 D.names D.ae d).1 (B5 D.names D.ae d).2.1 (B5 D.names D.ae d).2.2 d):=⟨_,rfl⟩;rw[<-HQ.out]at j4;go_wp2_with (first|(refine CK rfl 226 (.tmp 6) rfl K rfl 226 (AG q).toArray (0,0) _ j4 underlying226 rfl Et ?_)|(refine D7 rfl 226 (.tmp 4) (.tmp 52) rfl (w.heap.size+1) (AG q).toArray rfl rfl 226 zU.toArray y3 Et rfl (Mk q) ?_));have s:A3 (fun x=>x=w.heap.size+1) wr (wr.setRow (w.heap.size+1) (AG q).toArray):=⟨rfl,rfl,rfl,by simp,fun k _ hn=>Go.setRow_other wr _ k _ hn⟩;have y1:∀q o,own3 q=some o->¬q=w.heap.size+1:=fun q o e e'=>by rw[e',u.no]at e;cases e
   have E:=BX.fm h.ok q3 (by omega) u.aw;refine Aq (v:=.agg (AG q).toArray) (jR rfl _ _ (w.heap.size+1) 226 (AG q).toArray (0,0) _ rfl (F7 wr (w.heap.size+1) _ _ _ _ y3) underlying226 rfl Et) rfl ⟨own3,V4,by rw[HQ.out],X.only s (.refl 0 _) (X.ok.below (by simp)) (fun q o e _ _=>y1 q o e),⟨E.only.trans s (fun k hk e=>by omega),E.ext⟩⟩
end
section
attribute [local go_sem] AE As
open Go.RowKit Go.WideMaps Go.Maps
variable [DecidableEq R3] [DecidableEq A4]
theorem cH(w:World)(base sb o:Nat)(mv lv:Value)(xs:List B8)(j:w.cell? ⟨sb,o+1,none⟩=some lv)(hS:Cu w base mv lv xs)(i:Nat)(x:B8)(hx:xs[i]? =some x):
 Calls prog 138 #[.pointer (some ⟨sb,o,none⟩),.int .i64 i] w fun e w'=>e=.returned (.string (bs x))/\w'=w:=by
 obtain⟨ao,cap,rfl⟩:=Au hS.1;obtain⟨y,q⟩:=List.getElem?_eq_some_iff.1 hx;have h:=hS.1;rw[List.flatMap_def]at h;obtain⟨g,rfl,_,hc⟩:=E8 h (by intro r v;obtain⟨p,_,rfl⟩:=List.mem_map.1 v;rfl) (by simp) i y;have e:(xs.map fun k=>[Value.string (bs k)]).getD i []=[.string (bs x)]:=by rw[Ap,Ba,hx];rfl
 rw[e]at hc;have z:w.cell? ⟨g,i,none⟩=some (.string (bs x)):=by simpa using hc 0 (by decide)
 have q1:=FX j;have q0:=FX z;clear hc e h q hx;go_enter func138,ntmps138;go_wp2_with fail
 go_ret
 exact⟨rfl,rfl⟩
def WQ(nm:ByteArray)(q:Int)(t0 t1 t2:ByteArray)(j z y:B8)(i:Nat):List Value:=[.string nm,.int .i64 q,.string (if 0<i then bs j else t0),.string (if 1<i then bs z else t1),.string (if 2<i then bs y else t2)]
theorem cS{w:World}{own:Bu}{base tb:Nat}{V:TV}{D:TD}{qs:List A4}{S:List A1}{sz:Nat}(h:Fi w own base tb V D qs S sz)(nm t0 t1 t2:ByteArray)(d:Int)(x0 y k:Nat)(u g b:B8)(l:D.ae[x0]? =some u)(h1:D.ae[y]? =some g)(h2:D.ae[k]? =some b):
 Calls prog 152 #[.pointer (some ⟨tb,2,none⟩),.agg #[.string nm,.int .i64 d,.string t0,.string t1,.string t2],.agg #[.int .i64 (x0:Nat),.int .i64 (y:Nat),.int .i64 (k:Nat)]] w fun e w'=>e=.returned (.agg #[.string nm,.int .i64 d,.string (bs u),.string (bs g),.string (bs b)])/\Below w.heap.size w w':=by
 have i0:=Oq (x0:Nat) (y:Nat) (k:Nat);have i1:=Oo (x0:Nat) (y:Nat) (k:Nat);have i2:=On (x0:Nat) (y:Nat) (k:Nat);go_enter func152,ntmps152;have x:=((Aw.new w (WQ nm d t0 t1 t2 u g b 0) 80).alloc (.cells #[.int .i64 (x0:Nat),.int .i64 (y:Nat),.int .i64 (k:Nat)] 221)).alloc (.cells zA.toArray 80);have t:=Aw.new ((w.alloc (.cells (WQ nm d t0 t1 t2 u g b 0).toArray 80)).alloc (.cells #[.int .i64 (x0:Nat),.int .i64 (y:Nat),.int .i64 (k:Nat)] 221)) zA 80;have n:=(((Ag w.heap.size w).alloc (Ab _) (.cells (WQ nm d t0 t1 t2 u g b 0).toArray 80)).alloc (by simp) (.cells #[.int .i64 (x0:Nat),.int .i64 (y:Nat),.int .i64 (k:Nat)] 221)).alloc (by simp;omega) (.cells zA.toArray 80);simp only[C8]at t;go_wp2_with fail
 go_loopw [10] (fun a wr=>∃(i:Nat),i<=3/\a=.int .i64 i/\Aw wr w.heap.size (WQ nm d t0 t1 t2 u g b i) 80/\Aw wr (w.heap.size+1+1) zA 80/\Below w.heap.size w wr) (fun a _=>3-(intOf a).toNat)
 case atStart=>exact⟨0,by omega,rfl,x,t,n⟩
 case round=>
  clear x t n;obtain⟨i,hi,rfl,q,z,m⟩:=hrel;have q6:=q.lt;have q5:=z.lt;have fQ:=q.frozen;have r:=h.below m;have q8:=r.al.lt;by_cases q7:i<3
  ·rcases(show i=0\/i=1\/i=2 by omega) with j|j|j
   ·subst j;rw[show((0:Nat):Int)=0 from rfl];have o:wr.cell? ⟨w.heap.size,2,none⟩=some (.string t0):=q.cell 2;have c:=Ao (cH wr base tb 4 V.cm V.cl D.ae (r.al.cell 5) r.ae x0 u l);go_wp2_with (go_at_call 138;refine(c.out).mono ?_;rintro e w3 ⟨rfl,s⟩;subst w3);exact⟨⟨1,by omega,rfl,q.setCell 2 _,z.setOther ⟨w.heap.size,2,none⟩ _ (by show w.heap.size+1+1≠w.heap.size;omega),m.setCell (p:=⟨w.heap.size,2,none⟩) (Ab _) _⟩,by simp[intOf]⟩
   ·subst j;rw[show((1:Nat):Int)=1 from rfl];have o:wr.cell? ⟨w.heap.size,3,none⟩=some (.string t1):=q.cell 3;have c:=Ao (cH wr base tb 4 V.cm V.cl D.ae (r.al.cell 5) r.ae y g h1);go_wp2_with (go_at_call 138;refine(c.out).mono ?_;rintro e w3 ⟨rfl,s⟩;subst w3);exact⟨⟨2,by omega,rfl,q.setCell 3 _,z.setOther ⟨w.heap.size,3,none⟩ _ (by show w.heap.size+1+1≠w.heap.size;omega),m.setCell (p:=⟨w.heap.size,3,none⟩) (Ab _) _⟩,by simp[intOf]⟩
   ·subst j;rw[show((2:Nat):Int)=2 from rfl];have o:wr.cell? ⟨w.heap.size,4,none⟩=some (.string t2):=q.cell 4;have c:=Ao (cH wr base tb 4 V.cm V.cl D.ae (r.al.cell 5) r.ae k b h2);go_wp2_with (go_at_call 138;refine(c.out).mono ?_;rintro e w3 ⟨rfl,s⟩;subst w3);exact⟨⟨3,by omega,rfl,q.setCell 4 _,z.setOther ⟨w.heap.size,4,none⟩ _ (by show w.heap.size+1+1≠w.heap.size;omega),m.setCell (p:=⟨w.heap.size,4,none⟩) (Ab _) _⟩,by simp[intOf]⟩
  ·have f:i=3:=by omega
   subst f;rw[show((3:Nat):Int)=3 from rfl];have o:wr.cell? ⟨w.heap.size,0,none⟩=some (.string nm):=q.cell 0;have q1:wr.cell? ⟨w.heap.size,1,none⟩=some (.int .i64 d):=q.cell 1;have q2:wr.cell? ⟨w.heap.size,2,none⟩=some (.string (bs u)):=q.cell 2;have q3:wr.cell? ⟨w.heap.size,3,none⟩=some (.string (bs g)):=q.cell 3;have q4:wr.cell? ⟨w.heap.size,4,none⟩=some (.string (bs b)):=q.cell 4;have fO:=z.frozen;have Q:wr.cell? ⟨w.heap.size+1+1,0,none⟩=some (.string ⟨#[]⟩):=z.cell 0;have J:wr.cell? ⟨w.heap.size+1+1,1,none⟩=some (.int .i64 0):=z.cell 1;have Z:wr.cell? ⟨w.heap.size+1+1,2,none⟩=some (.string ⟨#[]⟩):=z.cell 2;have Y:wr.cell? ⟨w.heap.size+1+1,3,none⟩=some (.string ⟨#[]⟩):=z.cell 3;have K:wr.cell? ⟨w.heap.size+1+1,4,none⟩=some (.string ⟨#[]⟩):=z.cell 4;go_wp2_with fail;refine Aq (v:=.agg #[.string nm,.int .i64 d,.string (bs u),.string (bs g),.string (bs b)]) (by simp[results,results152,go_sem,Q,J,Z,Y,K]) rfl ⟨rfl,?_⟩;refine AQ (AQ (AQ (AQ (AQ m ?_ _) ?_ _) ?_ _) ?_ _) ?_ _<;>simp<;>omega
theorem QK{q:Array Oper}{o:Oper}{a:Act}{S:World->Prop}(j:o.guard=none)(x:Operand)(z:o.op=.load 226 x)(R:Nat)(hx:a.eval x=.pointer (some ⟨R,0,none⟩))(r:Dq)(hS:∀W,S W->Aw W R (AG r) 226):YieldsIf prog q S o (.agg (AG r).toArray) a:=by refine Or.inl ⟨by simp[Region.wanted,j],fun W hW=>?_⟩;unfold execOp;simp only[z,hx,Instr.loadAt,Instr.sureAddr,Sem.run_bind,Sem.run_pure,Result.andThen_ok,run_loadVar_row W R 226 226 (AG r).toArray (0,0) _ (hS W hW) underlying226 rfl Et]
theorem L9{o:Oper}{a:Act}{w:World}{K:Act->World->Prop}{Q:Exit->Act->World->Prop}(q:o.op=.alloc 226)(h:K (a.put o.dst (.pointer (some ⟨w.heap.size,0,none⟩))) (w.alloc (.cells zU.toArray 226))):o.wp prog a w K Q:=by unfold Oper.wp execOp;simp[q,go_sem];exact h
theorem Aw.cu{w:World}{b g:Nat}{cs:List Value}{t:TypeId}{cells:Array Value}(h:Aw w b cs t)(hn:b≠g):Aw (w.setRow g cells) b cs t:=by have:=Go.setRow_other w g b cells hn;unfold Aw at*;rw[this];exact h
theorem mB(hcut:JQ){M:Int->R3->Prop}{lay:Int->Nat}{N C base tb:Nat}{D:TD}(hX:Nn M lay N C D){sb l:Nat}(k:Nat)(hJ:R7 M lay N C base tb D sb l k):jP M lay N C base tb D sb l k:=by
 intro w own S nd r p g t hk j7 h ht hr;have j9:=Ac w (.cells (AG r).toArray 226);have j4:=Aw.new w (AG r) 226;have O:=hr.wf.bj;have g0:=hr.wf.pos;obtain⟨V,hT⟩:=h.t
 have z5:own w.heap.size=none:=by
  cases e:own w.heap.size with
  |none=>rfl
  |some o=>exact absurd (hT.ok.lt _ o e).2 (by omega)
 go_enter func222,ntmps222;go_upto_region 1 with fail
 generalize w.alloc (Obj.cells (AG r).toArray 226)=w0 at*;have h0:=h.below j9;have v4:BX (Ch sb) own w own w0:=BX.below j9;have v8:=j4.lt;have y5:p<r.bj:=by omega
 have hq:YQ N C (r.b p):=⟨hr.names p y5,fun y hy=>hr.small.2 p y hy⟩;obtain⟨b0,b1,b2,b3⟩:=KC j4 p (by omega);have HN:=Ao (ZM hcut hX w0 own S nd h0 (r.b p) hq ((hr.lay p y5).1 j7));go_wp2_with (go_at_call 174;refine(HN.out).mono ?_;rintro e w1 ⟨own1,S1,k2,i0,t0,rfl,hn⟩);have v1:=j4.aw hn.aw z5;have z7:=hn.aw.none v8 z5;have v5:=v4.trans hn.aw;obtain⟨g6,g2,u8⟩:=hn.grow.at' g t ht;have g3:=hn.sr.inv;have y4:=hX.li.r;clear HN b0 b1 b2 b3;obtain⟨B,j8⟩:∃B:Nat,Hid (1*C*C*C=B):=⟨_,rfl⟩;rw[j8.out]at y4
 go_loopw [9] (fun iv wr=>∃(j:Nat) (z:Bu) (S2:List A1) (J:List Nat) (t2:A1),iv=.int .i64 (j:Nat)/\Sr M lay N C base tb D sb l wr z S2 J/\Eh S1 S2/\k2<+:J/\BX (Ch sb) own w z wr/\S2[i0]? =some t2/\j<=t2.rows.length/\Hid (BO S2=BO S->∀x∈t2.rows.take j,∀d,FA r (r.b p).r x=some d->JD M S2 J k d (p+1) g)/\Aw wr w.heap.size (AG r) 226/\z w.heap.size=none) (fun iv _=>B-(intOf iv).toNat)
 case atStart=>exact⟨0,own1,S1,k2,t0,rfl,hn.sr,.refl _,By _,v5,hn.ht,Cq _,fun _ x hx=>by simp at hx,v1,z7⟩
 case round=>
  obtain⟨j,z,S2,J,t2,rfl,Y,P,q7,y0,Q,hj,HD,q6,A⟩:=hrel;obtain⟨V2,v3⟩:=Y.t;obtain⟨ru,tm,tl,m⟩:=v3.cz i0 t2 Q
  have q9:t0.Le t2:=by
   obtain⟨y,hy,hl⟩:=P.at' i0 t0 hn.ht;rw[Q]at hy
   injection hy with hy
   subst hy;exact hl
  have u2:=NS Y.inv (fun n x h=>EC hX.st hX.ro h) (AP Q);rw[j8.out]at u2;have g1:=m.al.lt;have y2:=q9.b;have R:=Ao (Vm wr base t2.b 1 tm tl t2.rows (m.al.cell 2) m.rows);rw[y2]at R;by_cases s:j<t2.rows.length
  ·have hd:decide ((j:Int)<(t2.rows.length:Int))=true:=by simp;omega
   go_upto_region 5 with(go_at_call 151;refine(R.out).mono ?_;rintro e w9 ⟨he,u5⟩;subst w9;subst he);have v9:p<4:=by omega
   have u9:¬(4:Int)<=(p:Int):=by omega
   have v6:t2.rows[j]∈t2.rows:=Aj s;have z8:Aw wr t0.b [ru,tm,tl,.bool t2.fin] 266:=by rw[<-y2];exact m.al
   have z9:=m.rows;have u7:=q6.lt;have Z:Below wr.heap.size wr wr.drew:=(Ag _ _).drew;obtain⟨X,j6⟩:∃X,t2.rows[j]=X:=⟨_,rfl⟩;have j0:∀W,Below wr.heap.size wr W->Calls prog 153 #[.pointer (some ⟨t0.b,1,none⟩),.int .i64 j] W fun e w'=>e=.returned (.agg #[.int .i64 X.a,.int .i64 X.b,.int .i64 X.c])/\Below W.heap.size W w':=by intro W hb;have:=jM W base t0.b 1 tm tl t2.rows ((z8.below hb).cell 2) (z9.below hb) j s;rw[j6]at this;exact this
   go_cut [10,11] from 18 to 47 (fun x y wx=>∃(mb:Nat) (q:Dq),x=.pointer (some ⟨mb,0,none⟩)/\y=.bool (FA r (r.b p).r X).isSome/\wr.heap.size<=mb/\Aw wx mb (AG q) 226/\(∀x',FA r (r.b p).r X=some x'->q=x')/\Below wr.heap.size wr wx)
   case first=>as_aux_lemma=>
    refine wp_region_held_drew (S:=fun W=>Aw W w.heap.size (AG r) 226) (by kernel_rfl) q6.drew (fun U=>?_);refine wpAnyH_take (i:=0) (v:=_) rfl (by kernel_rfl) (by kernel_rfl) (by kernel_rfl) (fun _ _ _ h=>h) (QK rfl (.tmp 5) rfl w.heap.size rfl r (fun _ h=>h)) U ?_
    try simp only[List.getElem_toArray,List.getElem_cons_zero,List.getElem_cons_succ,Act.put,Ae,List.set_cons_zero,List.set_cons_succ]
    refine wpAnyH_take (i:=1) (v:=.int .i64 (p:Nat)) rfl (by kernel_rfl) (by kernel_rfl) (by kernel_rfl) (fun _ _ _ h=>h) (Or.inl ⟨by rfl,fun W hW=>by go_simp⟩) U ?_
    try simp only[List.getElem_toArray,List.getElem_cons_zero,List.getElem_cons_succ,Act.put,Ae,List.set_cons_zero,List.set_cons_succ]
    refine wpAnyH_take (i:=2) (v:=.pointer (some ⟨w.heap.size,4,none⟩)) rfl (by kernel_rfl) (by kernel_rfl) (by kernel_rfl) (fun _ _ _ h=>h) (Or.inl ⟨by rfl,fun W hW=>by go_simp⟩) U ?_
    try simp only[List.getElem_toArray,List.getElem_cons_zero,List.getElem_cons_succ,Act.put,Ae,List.set_cons_zero,List.set_cons_succ]
    refine wpAnyH_take (i:=3) (v:=.pointer (some ⟨w.heap.size,4+p*4,none⟩)) rfl (by kernel_rfl) (by kernel_rfl) (by kernel_rfl) (fun _ _ _ h=>h) (Or.inl ⟨by rfl,fun W hW=>by go_simp⟩) U ?_
    try simp only[List.getElem_toArray,List.getElem_cons_zero,List.getElem_cons_succ,Act.put,Ae,List.set_cons_zero,List.set_cons_succ]
    refine wpAnyH_take (i:=4) (v:=.pointer (some ⟨w.heap.size,4+p*4+1,none⟩)) rfl (by kernel_rfl) (by kernel_rfl) (by kernel_rfl) (fun _ _ _ h=>h) (Or.inl ⟨by rfl,fun W hW=>by go_simp⟩) U ?_
    try simp only[List.getElem_toArray,List.getElem_cons_zero,List.getElem_cons_succ,Act.put,Ae,List.set_cons_zero,List.set_cons_succ]
    refine wpAnyH_take (i:=5) (v:=.agg #[.int .i64 (r.b p).r.a,.int .i64 (r.b p).r.b,.int .i64 (r.b p).r.c]) rfl (by kernel_rfl) (by kernel_rfl) (by kernel_rfl) (fun _ _ _ h=>h) (Or.inl ⟨by rfl,fun W hW=>by obtain⟨b0,b1,b2,b3⟩:=KC hW p v9;go_simp⟩) U ?_
    try simp only[List.getElem_toArray,List.getElem_cons_zero,List.getElem_cons_succ,Act.put,Ae,List.set_cons_zero,List.set_cons_succ]
    refine wpAnyH_take (i:=6) (v:=.pointer (some ⟨t0.b,0,none⟩)) rfl (by kernel_rfl) (by kernel_rfl) (by kernel_rfl) (fun _ _ _ h=>h) (Or.inl ⟨by rfl,fun W hW=>by go_simp⟩) U ?_
    try simp only[List.getElem_toArray,List.getElem_cons_zero,List.getElem_cons_succ,Act.put,Ae,List.set_cons_zero,List.set_cons_succ]
    refine wpAnyH_take (i:=7) (v:=.pointer (some ⟨t0.b,0,none⟩)) rfl (by kernel_rfl) (by kernel_rfl) (by kernel_rfl) (fun _ _ _ h=>h) (Or.inl ⟨by rfl,fun W hW=>by go_simp⟩) U ?_
    try simp only[List.getElem_toArray,List.getElem_cons_zero,List.getElem_cons_succ,Act.put,Ae,List.set_cons_zero,List.set_cons_succ]
    refine wpAnyH_take (i:=8) (v:=.pointer (some ⟨t0.b,1,none⟩)) rfl (by kernel_rfl) (by kernel_rfl) (by kernel_rfl) (fun _ _ _ h=>h) (Or.inl ⟨by rfl,fun W hW=>by go_simp⟩) U ?_
    try simp only[List.getElem_toArray,List.getElem_cons_zero,List.getElem_cons_succ,Act.put,Ae,List.set_cons_zero,List.set_cons_succ]
    refine wpAnyH_take (i:=9) (v:=.int .i64 (j:Nat)) rfl (by kernel_rfl) (by kernel_rfl) (by kernel_rfl) (fun _ _ _ h=>h) (Or.inl ⟨by rfl,fun W hW=>by go_simp⟩) U ?_
    try simp only[List.getElem_toArray,List.getElem_cons_zero,List.getElem_cons_succ,Act.put,Ae,List.set_cons_zero,List.set_cons_succ]
    refine wpAnyH_ready (rs:=[10,15]) (by kernel_rfl) (by simp) ?_;refine AllReadyH.cons rfl (fun K u=>?_) ?_
    ·as_aux_lemma=>
     go_simp;go_wp2_with (go_at_call 153;refine(j0 _ Z).mono ?_;rintro e x1 ⟨rfl,j1⟩);have b1:=(Z).trans (j1.mono (Z).size);have s1:=j1.size;refine u.out _ _ (Aw.below U j1) (fun z4=>?_)
     try simp only[List.getElem_toArray,List.getElem_cons_zero,List.getElem_cons_succ,Act.put,Ae,List.set_cons_zero,List.set_cons_succ]
     refine wpAnyH_ready (rs:=[11,15]) (by kernel_rfl) (by simp) ?_;refine AllReadyH.cons rfl (fun K u=>?_) ?_
     ·as_aux_lemma=>
      go_simp;go_wp2_with (go_at_call 228;refine(WI _ r (r.b p).r X O).mono ?_;rintro e x2 ⟨⟨q2,rfl,y6⟩,j2⟩);have b2:=(b1).trans (j2.mono (b1).size);have s2:=j2.size;refine u.out _ _ (Aw.below z4 j2) (fun q1=>?_)
      try simp only[List.getElem_toArray,List.getElem_cons_zero,List.getElem_cons_succ,Act.put,Ae,List.set_cons_zero,List.set_cons_succ]
      refine wpAnyH_take (i:=12) (v:=.tuple #[.agg (AG q2).toArray,.bool (FA r (r.b p).r X).isSome]) rfl (by kernel_rfl) (by kernel_rfl) (by kernel_rfl) (fun _ _ _ h=>h) (Or.inl ⟨by rfl,fun W hW=>by go_simp⟩) q1 ?_
      try simp only[List.getElem_toArray,List.getElem_cons_zero,List.getElem_cons_succ,Act.put,Ae,List.set_cons_zero,List.set_cons_succ]
      refine wpAnyH_take (i:=13) (v:=.agg (AG q2).toArray) rfl (by kernel_rfl) (by kernel_rfl) (by kernel_rfl) (fun _ _ _ h=>h) (Or.inl ⟨by rfl,fun W hW=>by go_simp⟩) q1 ?_
      try simp only[List.getElem_toArray,List.getElem_cons_zero,List.getElem_cons_succ,Act.put,Ae,List.set_cons_zero,List.set_cons_succ]
      refine wpAnyH_take (i:=14) (v:=.bool (FA r (r.b p).r X).isSome) rfl (by kernel_rfl) (by kernel_rfl) (by kernel_rfl) (fun _ _ _ h=>h) (Or.inl ⟨by rfl,fun W hW=>by go_simp⟩) q1 ?_
      try simp only[List.getElem_toArray,List.getElem_cons_zero,List.getElem_cons_succ,Act.put,Ae,List.set_cons_zero,List.set_cons_succ]
      refine wpAnyH_ready (rs:=[15]) (by kernel_rfl) (by simp) ?_;refine AllReadyH.cons rfl (fun K u=>?_) ?_
      ·as_aux_lemma=>
       rw[Ai (by rfl)];refine L9 rfl ?_;have b3:=(b2).alloc (by have:=(b2).size;simp at this⊢ <;>omega) (.cells zU.toArray 226);have m3:=Aw.new (x2) zU 226;have s3:=(b2).size;refine u.out _ _ (Aw.alloc q1 _) (fun k5=>?_)
       try simp only[List.getElem_toArray,List.getElem_cons_zero,List.getElem_cons_succ,Act.put,Ae,List.set_cons_zero,List.set_cons_succ]
       refine wpAnyH_ready (rs:=[16]) (by kernel_rfl) (by simp) ?_;refine AllReadyH.cons rfl (fun K u=>?_) ?_
       ·as_aux_lemma=>
        rw[Ai (by rfl)];refine wp_store_row 226 (.tmp 10) (.tmp 39) rfl (x2).heap.size (AG q2).toArray rfl rfl 226 zU.toArray m3 Et rfl (Mk q2) ?_;refine u.out _ _ ?_ (fun E=>?_)
        ·exact Aw.cu k5 (by omega)
        try simp only[List.getElem_toArray,List.getElem_cons_zero,List.getElem_cons_succ,Act.put,Ae,List.set_cons_zero,List.set_cons_succ]
        refine wpAnyH_take (i:=17) (v:=.bool (FA r (r.b p).r X).isSome) rfl (by kernel_rfl) (by kernel_rfl) (by kernel_rfl) (fun _ _ _ h=>h) (Or.inl ⟨by rfl,fun W hW=>by go_simp⟩) E ?_
        try simp only[List.getElem_toArray,List.getElem_cons_zero,List.getElem_cons_succ,Act.put,Ae,List.set_cons_zero,List.set_cons_succ]
        refine wpAnyH_done (by kernel_rfl) ?_ _;go_wp2_with fail;go_meet;exact⟨(x2).heap.size,q2,rfl,rfl,by omega,F7 _ _ _ _ _ _ m3,y6,below_setRow b3 (by omega) _⟩
       exact AllReadyH.nil
      exact AllReadyH.nil
     refine AllReadyH.cons rfl (fun K u=>?_) ?_
     ·as_aux_lemma=>
      rw[Ai (by rfl)];refine L9 rfl ?_;have b4:=(b1).alloc (by have:=(b1).size;simp at this⊢ <;>omega) (.cells zU.toArray 226);have m4:=Aw.new (x1) zU 226;have s4:=(b1).size;refine u.out _ _ (Aw.alloc z4 _) (fun k6=>?_)
      try simp only[List.getElem_toArray,List.getElem_cons_zero,List.getElem_cons_succ,Act.put,Ae,List.set_cons_zero,List.set_cons_succ]
      refine wpAnyH_ready (rs:=[11]) (by kernel_rfl) (by simp) ?_;refine AllReadyH.cons rfl (fun K u=>?_) ?_
      ·as_aux_lemma=>
       go_simp;go_wp2_with (go_at_call 228;refine(WI _ r (r.b p).r X O).mono ?_;rintro e x5 ⟨⟨q5,rfl,y7⟩,L⟩);have b5:=(b4).trans (L.mono (b4).size);have s5:=L.size;have m5:=Aw.below m4 L;refine u.out _ _ (Aw.below k6 L) (fun q3=>?_)
       try simp only[List.getElem_toArray,List.getElem_cons_zero,List.getElem_cons_succ,Act.put,Ae,List.set_cons_zero,List.set_cons_succ]
       refine wpAnyH_take (i:=12) (v:=.tuple #[.agg (AG q5).toArray,.bool (FA r (r.b p).r X).isSome]) rfl (by kernel_rfl) (by kernel_rfl) (by kernel_rfl) (fun _ _ _ h=>h) (Or.inl ⟨by rfl,fun W hW=>by go_simp⟩) q3 ?_
       try simp only[List.getElem_toArray,List.getElem_cons_zero,List.getElem_cons_succ,Act.put,Ae,List.set_cons_zero,List.set_cons_succ]
       refine wpAnyH_take (i:=13) (v:=.agg (AG q5).toArray) rfl (by kernel_rfl) (by kernel_rfl) (by kernel_rfl) (fun _ _ _ h=>h) (Or.inl ⟨by rfl,fun W hW=>by go_simp⟩) q3 ?_
       try simp only[List.getElem_toArray,List.getElem_cons_zero,List.getElem_cons_succ,Act.put,Ae,List.set_cons_zero,List.set_cons_succ]
       refine wpAnyH_take (i:=14) (v:=.bool (FA r (r.b p).r X).isSome) rfl (by kernel_rfl) (by kernel_rfl) (by kernel_rfl) (fun _ _ _ h=>h) (Or.inl ⟨by rfl,fun W hW=>by go_simp⟩) q3 ?_
       try simp only[List.getElem_toArray,List.getElem_cons_zero,List.getElem_cons_succ,Act.put,Ae,List.set_cons_zero,List.set_cons_succ]
       refine wpAnyH_ready (rs:=[16]) (by kernel_rfl) (by simp) ?_;refine AllReadyH.cons rfl (fun K u=>?_) ?_
       ·as_aux_lemma=>
        rw[Ai (by rfl)];refine wp_store_row 226 (.tmp 10) (.tmp 39) rfl (x1).heap.size (AG q5).toArray rfl rfl 226 zU.toArray m5 Et rfl (Mk q5) ?_;refine u.out _ _ ?_ (fun E=>?_)
        ·exact Aw.cu q3 (by omega)
        try simp only[List.getElem_toArray,List.getElem_cons_zero,List.getElem_cons_succ,Act.put,Ae,List.set_cons_zero,List.set_cons_succ]
        refine wpAnyH_take (i:=17) (v:=.bool (FA r (r.b p).r X).isSome) rfl (by kernel_rfl) (by kernel_rfl) (by kernel_rfl) (fun _ _ _ h=>h) (Or.inl ⟨by rfl,fun W hW=>by go_simp⟩) E ?_
        try simp only[List.getElem_toArray,List.getElem_cons_zero,List.getElem_cons_succ,Act.put,Ae,List.set_cons_zero,List.set_cons_succ]
        refine wpAnyH_done (by kernel_rfl) ?_ _;go_wp2_with fail;go_meet;exact⟨(x1).heap.size,q5,rfl,rfl,by omega,F7 _ _ _ _ _ _ m5,y7,below_setRow b5 (by omega) _⟩
       exact AllReadyH.nil
      exact AllReadyH.nil
     exact AllReadyH.nil
    refine AllReadyH.cons rfl (fun K u=>?_) ?_
    ·as_aux_lemma=>
     rw[Ai (by rfl)];refine L9 rfl ?_;have b6:=(Z).alloc (by have:=(Z).size;simp at this⊢ <;>omega) (.cells zU.toArray 226);have m6:=Aw.new (wr.drew) zU 226;have s6:=(Z).size;refine u.out _ _ (Aw.alloc U _) (fun k7=>?_)
     try simp only[List.getElem_toArray,List.getElem_cons_zero,List.getElem_cons_succ,Act.put,Ae,List.set_cons_zero,List.set_cons_succ]
     refine wpAnyH_ready (rs:=[10]) (by kernel_rfl) (by simp) ?_;refine AllReadyH.cons rfl (fun K u=>?_) ?_
     ·as_aux_lemma=>
      go_simp;go_wp2_with (go_at_call 153;refine(j0 _ b6).mono ?_;rintro e x7 ⟨rfl,H⟩);have b7:=(b6).trans (H.mono (b6).size);have s7:=H.size;have m7:=Aw.below m6 H;refine u.out _ _ (Aw.below k7 H) (fun k8=>?_)
      try simp only[List.getElem_toArray,List.getElem_cons_zero,List.getElem_cons_succ,Act.put,Ae,List.set_cons_zero,List.set_cons_succ]
      refine wpAnyH_ready (rs:=[11]) (by kernel_rfl) (by simp) ?_;refine AllReadyH.cons rfl (fun K u=>?_) ?_
      ·as_aux_lemma=>
       go_simp;go_wp2_with (go_at_call 228;refine(WI _ r (r.b p).r X O).mono ?_;rintro e x8 ⟨⟨q8,rfl,y8⟩,q0⟩);have b8:=(b7).trans (q0.mono (b7).size);have s8:=q0.size;have m8:=Aw.below m7 q0;refine u.out _ _ (Aw.below k8 q0) (fun q4=>?_)
       try simp only[List.getElem_toArray,List.getElem_cons_zero,List.getElem_cons_succ,Act.put,Ae,List.set_cons_zero,List.set_cons_succ]
       refine wpAnyH_take (i:=12) (v:=.tuple #[.agg (AG q8).toArray,.bool (FA r (r.b p).r X).isSome]) rfl (by kernel_rfl) (by kernel_rfl) (by kernel_rfl) (fun _ _ _ h=>h) (Or.inl ⟨by rfl,fun W hW=>by go_simp⟩) q4 ?_
       try simp only[List.getElem_toArray,List.getElem_cons_zero,List.getElem_cons_succ,Act.put,Ae,List.set_cons_zero,List.set_cons_succ]
       refine wpAnyH_take (i:=13) (v:=.agg (AG q8).toArray) rfl (by kernel_rfl) (by kernel_rfl) (by kernel_rfl) (fun _ _ _ h=>h) (Or.inl ⟨by rfl,fun W hW=>by go_simp⟩) q4 ?_
       try simp only[List.getElem_toArray,List.getElem_cons_zero,List.getElem_cons_succ,Act.put,Ae,List.set_cons_zero,List.set_cons_succ]
       refine wpAnyH_take (i:=14) (v:=.bool (FA r (r.b p).r X).isSome) rfl (by kernel_rfl) (by kernel_rfl) (by kernel_rfl) (fun _ _ _ h=>h) (Or.inl ⟨by rfl,fun W hW=>by go_simp⟩) q4 ?_
       try simp only[List.getElem_toArray,List.getElem_cons_zero,List.getElem_cons_succ,Act.put,Ae,List.set_cons_zero,List.set_cons_succ]
       refine wpAnyH_ready (rs:=[16]) (by kernel_rfl) (by simp) ?_;refine AllReadyH.cons rfl (fun K u=>?_) ?_
       ·as_aux_lemma=>
        rw[Ai (by rfl)];refine wp_store_row 226 (.tmp 10) (.tmp 39) rfl (wr.drew).heap.size (AG q8).toArray rfl rfl 226 zU.toArray m8 Et rfl (Mk q8) ?_;refine u.out _ _ ?_ (fun E=>?_)
        ·exact Aw.cu q4 (by omega)
        try simp only[List.getElem_toArray,List.getElem_cons_zero,List.getElem_cons_succ,Act.put,Ae,List.set_cons_zero,List.set_cons_succ]
        refine wpAnyH_take (i:=17) (v:=.bool (FA r (r.b p).r X).isSome) rfl (by kernel_rfl) (by kernel_rfl) (by kernel_rfl) (fun _ _ _ h=>h) (Or.inl ⟨by rfl,fun W hW=>by go_simp⟩) E ?_
        try simp only[List.getElem_toArray,List.getElem_cons_zero,List.getElem_cons_succ,Act.put,Ae,List.set_cons_zero,List.set_cons_succ]
        refine wpAnyH_done (by kernel_rfl) ?_ _;go_wp2_with fail;go_meet;exact⟨(wr.drew).heap.size,q8,rfl,rfl,by omega,F7 _ _ _ _ _ _ m8,y8,below_setRow b8 (by omega) _⟩
       exact AllReadyH.nil
      exact AllReadyH.nil
     exact AllReadyH.nil
    exact AllReadyH.nil
   case rest=>
    obtain⟨mb,q,rfl,rfl,g4,k9,u0,j3⟩:=hcut;obtain⟨w3,u4⟩:∃x:World,x=wc:=⟨wc,rfl⟩;subst u4;have y9:=Y.below j3;have j5:=q6.below j3;have y1:BX (Ch sb) own w z w3:=y0.bm j3;have k4:j+1<=B:=by omega
    have k1:t2.rows.take (j+1)=t2.rows.take j++[X]:=by rw[Ad s,j6]
    have v0:M (r.b p).n X:=by have:=(Y.inv.sound t2 (AP Q) X (j6▸v6)).1;rw[q9.q,hn.hq]at this;exact this
    have z0:=hn.grow.trans P;clear q6 Y j0 z8 z9
    cases hfit:FA r (r.b p).r X with
    |none=>as_aux_lemma=>
     go_wp2_with fail;refine⟨⟨j+1,z,S2,J,t2,by go_num,y9,P,q7,y1,Q,s,?_,j5,A⟩,by simp[intOf];omega⟩;intro e x hx d I;rw[k1]at hx;rcases List.mem_append.1 hx with hx|hx
     ·exact HD.out e x hx d I
     ·simp at hx;subst hx;rw[hfit]at I;cases I
    |some d=>as_aux_lemma=>
     have e1:=u0 d hfit;subst e1;obtain⟨t9,u3,y3⟩:=z0.at' g t ht;have u1:RJ M lay N C t9.q l q (p+1):=by rw[y3.q];exact RJ.pos hX.st hX.ro hr j7 v0 hfit
     have g5:q.bj=r.bj:=by obtain⟨f,F⟩:=J6 hr.wf hfit;rw[F.is];rfl
     have HJ:=Ao (hJ w3 z S2 J q (p+1) g t9 (by omega) y9 u3 u1);rw[y3.b]at HJ;go_wp2_with (first|(refine CK rfl 226 (.tmp 10) rfl mb rfl 226 (AG q).toArray (0,0) _ k9 underlying226 rfl Et ?_)|(go_at_call 202;refine(HJ.out).mono ?_;rintro e w4 ⟨k3,S4,u6,rfl,G⟩));obtain⟨t4,k0,v7⟩:=G.grow.at' i0 t2 Q;have v2:=j5.lt;refine⟨⟨j+1,k3,S4,u6,t4,by go_num,G.sr,P.trans G.grow,q7.trans G.sub,y1.trans G.aw,k0,Ay s v7.rows.length_le,?_,j5.aw G.aw A,G.aw.none v2 A⟩,by simp[intOf];omega⟩;intro e x hx d I;have z1:=z0.size;have z2:=G.grow.size;have z3:BO S4=BO S2:=by omega
     rw[G.grow.same z3 i0 t2 t4 Q k0,k1]at hx;rcases List.mem_append.1 hx with hx|hx
     ·exact(HD.out (by omega) x hx d I).mono G.grow z3 (fun i hi=>G.sub.subset hi)
     ·simp at hx;subst hx;rw[hfit]at I
      injection I with I
      subst I;exact G.jd z3
  ·have hd:decide ((j:Int)<(t2.rows.length:Int))=false:=by simp;omega
   go_wp2_with (go_at_call 151;refine(R.out).mono ?_;rintro e w9 ⟨he,u5⟩;subst w9;subst he)
   go_end0
   refine⟨z,S2,J,rfl,⟨Y,hn.grow.trans P,hn.sub.trans q7,y0,fun e=>?_⟩⟩;unfold JD;rw[Ai j7];refine⟨i0,t2,Q,by rw[q9.q,hn.hq],?_,fun x hx d I=>HD.out e x (by rw[show j=t2.rows.length by omega,AL];exact hx) d I⟩;rcases hn.fin with h1|h1
   ·exact .inl (q9.fin h1)
   ·exact .inr (q7.subset h1)
theorem Z8(hcut:JQ){M:Int->R3->Prop}{lay:Int->Nat}{N C base tb:Nat}{D:TD}(q:Nn M lay N C D){sb l:Nat}(hF:∀j,j<l->O7 M lay N C base tb D j)(k:Nat):R7 M lay N C base tb D sb l k:=by
 induction k using Nat.strongRecOn with
 |ind k z=>exact kM q hF k z (fun j y=>mB hcut q j (z j y))
structure YP(M:Int->R3->Prop)(lay:Int->Nat)(N C base tb:Nat)(D:TD)(sb l:Nat)(w:World)(own:Bu)(S:List A1)(nd:List Nat)(w':World)(own':Bu)(S':List A1)(nd':List Nat):Prop where
 sr:Sr M lay N C base tb D sb l w' own' S' nd'
 grow:Eh S S'
 sub:nd<+:nd'
 aw:BX (Ch sb) own w own' w'
 full:BO S'=BO S->∀i∈nd',∃t,S'[i]? =some t/\(t.fin=true\/∀r∈D5 D.rules t.q,JD M S' nd' r.bj r 0 i)
def O9(M:Int->R3->Prop)(D:TD)(S':List A1)(nd':List Nat)(i:Nat):Prop:=∃t,S'[i]? =some t/\(t.fin=true\/∀r∈D5 D.rules t.q,JD M S' nd' r.bj r 0 i)
theorem O9.mono{M:Int->R3->Prop}{D:TD}{S S':List A1}{nd nd':List Nat}{i:Nat}(h:O9 M D S nd i)(j:Eh S S')(y:BO S'=BO S)(hn:∀i∈nd,i∈nd'):O9 M D S' nd' i:=by
 obtain⟨t,ht,hd⟩:=h;obtain⟨u,v,z⟩:=j.at' i t ht;refine⟨u,v,?_⟩;rcases hd with hd|hd
 ·exact .inl (z.fin hd)
 ·exact .inr (fun r k=>(hd r (by rw[<-z.q];exact k)).mono j y hn)
theorem X7(hcut:JQ){M:Int->R3->Prop}{lay:Int->Nat}{N C base tb:Nat}{D:TD}(hX:Nn M lay N C D){sb l:Nat}(hF:∀j,j<l->O7 M lay N C base tb D j)(w:World)(own:Bu)(S:List A1)(nd:List Nat)(h:Sr M lay N C base tb D sb l w own S nd):
 Calls prog 175 #[.pointer (some ⟨sb,0,none⟩)] w fun e w'=>∃(own':Bu) (S':List A1) (nd':List Nat),e=.returned (.tuple #[])/\YP M lay N C base tb D sb l w own S nd w' own' S' nd':=by
 go_enter func175,ntmps175;go_wp2_with fail;obtain⟨B,j6⟩:∃B:Nat,Hid (N*(C+3)*(C+3)*(C+3)=B):=⟨_,rfl⟩
 go_loopw [2] (fun iv wr=>∃(j:Nat) (g:Bu) (S2:List A1) (z:List Nat),iv=.int .i64 (j:Nat)/\Sr M lay N C base tb D sb l wr g S2 z/\Eh S S2/\nd<+:z/\BX (Ch sb) own w g wr/\j<=z.length/\Hid (BO S2=BO S->∀i∈z.take j,O9 M D S2 z i)) (fun iv _=>B-(intOf iv).toNat)
 case atStart=>exact⟨0,own,S,nd,rfl,h,.refl _,By _,BX.refl _ _ _,Cq _,fun _ i X=>by simp at X⟩
 case round=>
  obtain⟨j,g,S2,z,rfl,p,Q,O,q4,hj,HD⟩:=hrel;obtain⟨V2,A⟩:=p.t;obtain⟨mv,lv,f⟩:=p.s;have k4:=f.al.lt;have k5:=A.al.lt;have a:=Ao (ZZ wr base sb 1 mv lv z (f.al.cell 2) f.set);have z5:=FN p.inv
  have k2:z.length<=S2.length:=by
   have:=p.nn.length_le_of_subset (l₂:=List.range S2.length) (by
    intro x hx;obtain⟨u,hu,_⟩:=p.nd x hx
    exact List.mem_range.2 (List.getElem?_eq_some_iff.1 hu).1)
   simpa using this
  have j8:=hX.li.q;rw[j6.out]at z5 j8;by_cases K:j<z.length
  ·have hd:decide ((j:Int)<(z.length:Int))=true:=by simp;omega
   obtain⟨t,ht,q7⟩:=p.nd z[j] (Aj K);obtain⟨i,I⟩:∃i,z[j]=i:=⟨_,rfl⟩;have H:∀W,Below wr.heap.size wr W->Calls prog 201 #[.pointer (some ⟨sb,1,none⟩),.int .i64 j] W fun e w'=>e=.returned (.int .i64 (i:Nat))/\w'=W:=by intro W hb;have:=jN W base sb 1 mv lv z ((f.al.below hb).cell 2) (f.set.below hb) j K;rw[I]at this;exact this
   rw[I]at ht;obtain⟨gl,cap,k1,g0,y7,g9⟩:=A.dq ht;obtain⟨ru,tm,tl,q3⟩:=A.cz i t ht;have X:i<S2.length:=(List.getElem?_eq_some_iff.1 ht).1;have d0:wr.cell? ⟨sb,0,none⟩=some (.pointer (some ⟨tb,0,none⟩)):=f.al.cell 0;go_upto_region 3 with(go_at_call 200;refine(a.out).mono ?_;rintro e w9 ⟨he,y1⟩;subst w9;subst he)
   go_cut [3] from 6 to 45 (fun x wx=>x=.pointer (some ⟨t.b,0,none⟩)/\Below wr.heap.size wr wx)
   case first=>as_aux_lemma=>
    go_region_with (go_at_call 201;refine(H _ (by exact(Ag _ _).drew)).mono ?_;rintro e w3 ⟨rfl,j5⟩;subst w3)
    all_goals go_wp2_with fail
    all_goals go_meet
    all_goals exact⟨rfl,(Ag _ _).drew⟩
   case rest=>
    obtain⟨rfl,E⟩:=hcut;obtain⟨w3,j5⟩:∃x:World,x=wc:=⟨wc,rfl⟩;subst j5;have q9:=p.below E;have v:=q3.below E;have q5:BX (Ch sb) own w g w3:=q4.bm E;have y5:=v.al.lt;obtain⟨fb,HF⟩:∃b:Bool,Hid (b=t.fin):=⟨_,rfl⟩;have d3:w3.cell? ⟨t.b,3,none⟩=some (.bool t.fin):=v.al.cell 3;rw[<-HF.out]at d3;have j2:z.take (j+1)=z.take j++[i]:=by rw[Ad K,I]
    clear H a
    cases fb with
    |true=>as_aux_lemma=>
     go_wp2_with fail;refine⟨⟨j+1,g,S2,z,by go_num,q9,Q,O,q5,K,?_⟩,by simp[intOf];omega⟩;intro e x hx;rw[j2]at hx;rcases List.mem_append.1 hx with hx|hx
     ·exact HD.out e x hx
     ·simp at hx;subst hx;exact⟨t,ht,.inl HF.out.symm⟩
    |false=>
     obtain⟨ro,rc,z9⟩:=Au v.rules;subst z9;have y4:w3.cell? ⟨t.b,0,none⟩=some (.slice ro (D5 D.rules t.q).length rc):=v.al.cell 0;have y6:(D5 D.rules t.q).length<=1000:=Ay (List.length_filterMap_le _ _) hX.nr;have q1:=v.rules;have q0:=v.dd;have z7:∀y,t.q.r.Has y->y<C:=fun y L=>(p.inv.cd t (AP ht) y L).2;have j7:=Ao (fun k=>Z8 hcut hX (sb:=sb) hF k);have z0:=fun r (hr:r∈D5 D.rules t.q)=>RJ.fi hX.st hX.ro (l:=l) hr q7 z7;go_wp2_with fail
     go_loopw [37] (fun kv wx=>∃(k:Nat) (d:Bu) (S4:List A1) (m:List Nat) (t4:A1),kv=.int .i64 (k:Nat)/\k<=(D5 D.rules t.q).length/\Sr M lay N C base tb D sb l wx d S4 m/\Eh S2 S4/\z<+:m/\BX (Ch sb) own w d wx/\S4[i]? =some t4/\Hid (BO S4=BO S->∀r∈(D5 D.rules t.q).take k,JD M S4 m r.bj r 0 i)/\wx.ownsRow base 226 22 (.slice ro (D5 D.rules t.q).length rc) (D5 D.rules t.q).length ((D5 D.rules t.q).flatMap AG)/\D6 d (4,i) (.slice ro (D5 D.rules t.q).length rc)) (fun kv _=>(D5 D.rules t.q).length-(intOf kv).toNat)
     case atStart=>exact⟨0,g,S2,z,t,rfl,Cq _,q9,.refl _,By _,q5,ht,fun _ r hr=>by simp at hr,q1,q0⟩
     case round=>as_aux_lemma=>
      obtain⟨k,d,S4,m,t4,rfl,hk,j0,n,Z,q6,G,HR,P,R⟩:=hrel
      have Y:t.Le t4:=by
       obtain⟨y,L,hl⟩:=n.at' i t ht;rw[G]at L
       injection L with L
       subst L;exact hl
      by_cases U:k<(D5 D.rules t.q).length
      ·have z4:decide ((k:Int)<((D5 D.rules t.q).length:Int))=true:=by simp;omega
       obtain⟨gr,rfl,y8,y2⟩:=Wt P k U;have z8:=Aj U;have j4:=Ad U;generalize (D5 D.rules t.q)[k]=r at*;go_upto_region 8 with(first|(refine wpList_load_mid rfl 226 (.tmp 39) rfl gr (k*22) rfl (AG r) _ y2 underlying226 rfl Et ?_)|(refine Fp rfl 226 (.tmp 5) (.tmp 40) rfl (AG r) rfl rfl Et rfl (Mk r) ?_;intro w5 j9 J k3));have j1:=j0.below J;have HJ:=Ao (j7.out r.bj w5 d S4 m r 0 i t4 (by omega) j1 G (by rw[Y.q];exact z0 r z8));rw[Y.b,show((0:Nat):Int)=0 from rfl]at HJ
       go_wp2_with (first|(refine CK rfl 226 (.tmp 5) rfl wr.heap.size rfl 226 (AG r).toArray (0,0) _ j9 underlying226 rfl Et ?_)|(go_at_call 202;refine(HJ.out).mono ?_;rintro e w6 ⟨own6,S6,y3,rfl,V⟩));obtain⟨t6,y0,k0⟩:=V.grow.at' i t4 G
       have q2:=BI (Ah P J) V.aw.only (fun q hq=>by
        rintro⟨o,e,c⟩;rw[R q (.inr hq)]at e
        injection e with e
        subst e
        rcases c with c|c|c<;>simp at c)
       refine⟨⟨k+1,own6,S6,y3,t6,by go_num,U,V.sr,n.trans V.grow,Z.trans V.sub,(q6.bm J).trans V.aw,y0,?_,q2,R.ext V.aw.ext⟩,by simp[intOf];omega⟩;intro e r' q8;have z1:=(Q.trans n).size;have z2:=V.grow.size;have z3:BO S6=BO S4:=by omega
       rw[j4]at q8;rcases List.mem_append.1 q8 with hx|hx
       ·exact(HR.out (by omega) r' hx).mono V.grow z3 (fun i X=>V.sub.subset X)
       ·simp at hx;subst hx;exact V.jd z3
      ·have z4:decide ((k:Int)<((D5 D.rules t.q).length:Int))=false:=by simp;omega
       go_wp2_with fail;have y9:=Z.length_le;refine⟨⟨j+1,d,S4,m,by go_num,j0,Q.trans n,O.trans Z,q6,by omega,?_⟩,by simp[intOf];omega⟩;intro e x hx;have z1:=Q.size;have z2:=n.size;have z3:BO S4=BO S2:=by omega
       have j3:m.take (j+1)=z.take (j+1):=by obtain⟨zs,rfl⟩:=Z;rw[JU K]
       rw[j3,j2]at hx;rcases List.mem_append.1 hx with hx|hx
       ·exact(HD.out (by omega) x hx).mono n z3 (fun i X=>Z.subset X)
       ·simp at hx;subst hx;refine⟨t4,G,.inr (fun r hr=>HR.out e r ?_)⟩;rw[show k=(D5 D.rules t.q).length by omega,AL,<-Y.q];exact hr
  ·have hd:decide ((j:Int)<(z.length:Int))=false:=by simp;omega
   go_wp2_with (go_at_call 200;refine(a.out).mono ?_;rintro e w9 ⟨he,y1⟩;subst w9;subst he)
   go_end0
   refine⟨g,S2,z,rfl,⟨p,Q,O,q4,fun e i X=>?_⟩⟩;exact HD.out e i (by rw[show j=z.length by omega,AL];exact X)
structure iT(M:Int->R3->Prop)(N C base tb:Nat)(D:TD)(w:World)(own:Bu)(S:List A1)(nd:List Nat)(w':World)(S':List A1):Prop where
 tb:Tb base tb D w' own S'
 inv:Hf M N C S'
 grow:Eh S S'
 size:BO S'=BO S
 fin:∀i∈nd,∃t,S'[i]? =some t/\t.fin=true
 aw:BX Sf own w own w'
theorem Fi.dw{w:World}{own:Bu}{base tb:Nat}{V:TV}{D:TD}{qs:List A4}{S:List A1}{sz:Nat}(h:Fi w own base tb V D qs S sz){i:Nat}{t:A1}(ht:S[i]? =some t):Fi (w.setCell ⟨t.b,3,none⟩ (.bool true)) own base tb V D qs (S.set i ⟨t.q,t.b,t.rows,true⟩) sz/\A3 (fun q=>own q=some (2,i)) w (w.setCell ⟨t.b,3,none⟩ (.bool true)):=by
 obtain⟨ru,mv,lv,j⟩:=h.cz i t ht;have k:A3 (fun q=>q=t.b) w (w.setCell ⟨t.b,3,none⟩ (.bool true)):=(A3.ab (S:=fun q=>q=t.b) (Ag _ _)).setCell (p:=⟨t.b,3,none⟩) (.inl rfl) _;have z:A3 (fun q=>own q=some (2,i)) w (w.setCell ⟨t.b,3,none⟩ (.bool true)):=k.mono (fun q e=>by rw[e];exact j.ob);refine⟨h.gd ht z (.refl 0 own) (h.ok.below (by simp[World.setCell])) (ru:=ru) (mv:=mv) (lv:=lv) ⟨j.al.setCell 3 _,BI j.rules k (fun q hq e=>Av j.rules j.al (by decide) (e▸hq)),j.rows.only k (fun q hq e=>Av j.rows.1 j.al (by decide) (e▸hq)) (fun q hq e=>?_),j.ob,j.dd,j.et,j.ep⟩ rfl,z⟩;rcases j.rows.2.2 with⟨y,_⟩|⟨r,D,y,_,v,_⟩
 ·rw[y]at hq;simp[AN]at hq
 ·rw[y]at hq;simp only[AN,Al]at hq;exact E9 v j.al (by omega)
theorem mP{M:Int->R3->Prop}{lay:Int->Nat}{N C base tb:Nat}{D:TD}(hX:Nn M lay N C D){sb l:Nat}(w:World)(own:Bu)(S:List A1)(nd:List Nat)(h:Sr M lay N C base tb D sb l w own S nd)(o:∀i∈nd,∃t,S[i]? =some t/\∀x,M t.q.n x->IN t.q.r x->x∈t.rows):
 Calls prog 176 #[.pointer (some ⟨sb,0,none⟩)] w fun e w'=>∃S',e=.returned (.tuple #[])/\iT M N C base tb D w own S nd w' S':=by
 obtain⟨V,hT⟩:=h.t;obtain⟨mv,lv,v⟩:=h.s;have P:=v.al.lt;have p:=Ao (ZZ w base sb 1 mv lv nd (v.al.cell 2) v.set);go_enter func176,ntmps176;go_wp2_with (go_at_call 200;refine(p.out).mono ?_;rintro e w9 ⟨he,q9⟩;subst w9;subst he);have q5:=FN h.inv;have q1:=hX.li.q
 have q6:nd.length<=S.length:=by
  have:=h.nn.length_le_of_subset (l₂:=List.range S.length) (by
   intro x hx;obtain⟨u,L,_⟩:=h.nd x hx
   exact List.mem_range.2 (List.getElem?_eq_some_iff.1 L).1)
  simpa using this
 clear p
 go_loopw [7] (fun iv wr=>∃(j:Nat) (S2:List A1),iv=.int .i64 (j:Nat)/\j<=nd.length/\Tb base tb D wr own S2/\Lb wr own base tb sb nd mv lv/\Hf M N C S2/\Eh S S2/\BO S2=BO S/\(∀i∈nd.take j,∃t,S2[i]? =some t/\t.fin=true)/\BX Sf own w own wr) (fun iv _=>nd.length-(intOf iv).toNat)
 case atStart=>exact⟨0,S,rfl,Cq _,⟨V,hT⟩,v,h.inv,.refl _,rfl,fun i B=>by simp at B,BX.refl _ _ _⟩
 case round=>
  clear P hT v;obtain⟨j,S2,rfl,hj,⟨V2,y⟩,z,f,g,X,c,G⟩:=hrel;by_cases d:j<nd.length
  ·have hd:decide ((j:Int)<(nd.length:Int))=true:=by simp;omega
   obtain⟨t1,Z,E⟩:=o nd[j] (Aj d);obtain⟨i,Q⟩:∃i,nd[j]=i:=⟨_,rfl⟩;have I:nd.take (j+1)=nd.take j++[i]:=by rw[Ad d,Q]
   have m:Calls prog 201 #[.pointer (some ⟨sb,1,none⟩),.int .i64 j] wr.drew fun e w'=>e=.returned (.int .i64 (i:Nat))/\w'=wr.drew:=by have:=jN wr.drew base sb 1 mv lv nd (z.al.drew.cell 2) (by exact z.set) j d;rw[Q]at this;exact this
   rw[Q]at Z;obtain⟨t,ht,R⟩:=g.at' i t1 Z;have J:=g.same X i t1 t Z ht;obtain⟨gl,cap,q4,g0,q3,g9⟩:=y.dq ht;obtain⟨ru,tm,tl,k⟩:=y.cz i t ht;have B:i<S2.length:=(List.getElem?_eq_some_iff.1 ht).1;have d0:wr.cell? ⟨sb,0,none⟩=some (.pointer (some ⟨tb,0,none⟩)):=z.al.cell 0;have d3:wr.cell? ⟨t.b,3,none⟩=some (.bool t.fin):=k.al.cell 3;have fT:=k.al.frozen;have P:=z.al.lt;have q7:=y.al.lt;have q2:=k.al.lt;have q0:=FN f;have m:=Ao m;go_wp2_with fail
   go_region_with (go_at_call 201;refine(m.out).mono ?_;rintro e w3 ⟨rfl,q8⟩;subst w3)
   all_goals go_wp2_with fail
   all_goals
    obtain⟨U,K⟩:=y.dw ht;have W:BO (S2.set i ⟨t.q,t.b,t.rows,true⟩)=BO S2:=by have:=PW (u:=⟨t.q,t.b,t.rows,true⟩) ht;simp at this;exact this
    rw[<-W,<-Qd (u:=⟨t.q,t.b,t.rows,true⟩) ht rfl]at U;have Y:Eh S2 (S2.set i ⟨t.q,t.b,t.rows,true⟩):=Eh.set ht ⟨rfl,rfl,By _,fun _=>rfl⟩;have a:=(Ag (wr.setCell ⟨t.b,3,none⟩ (.bool true)).heap.size (wr.setCell ⟨t.b,3,none⟩ (.bool true))).drew;refine⟨⟨j+1,S2.set i ⟨t.q,t.b,t.rows,true⟩,by go_num,d,⟨V2,U.below a⟩,(z.only K (.refl 0 own) (fun q e e'=>by rw[e]at e';simp at e')).below a,f.dw ht (fun x h1 h2=>?_),g.trans Y,by omega,?_,(G.trans (BX.one K (.inr rfl))).bm a⟩,by simp[intOf];omega⟩
    ·rw[J];exact E x (by rw[<-R.q];exact h1) (by rw[<-R.q];exact h2)
    ·intro x hx;rw[I]at hx;rcases List.mem_append.1 hx with hx|hx
     ·obtain⟨u,L,A⟩:=c x hx;obtain⟨u',H,O⟩:=Y.at' x u L;exact⟨u',H,O.fin A⟩
     ·simp at hx;subst hx;exact⟨_,by rw[CD B],rfl⟩
  ·have hd:decide ((j:Int)<(nd.length:Int))=false:=by simp;omega
   go_wp2_with fail
   go_end0
   refine⟨S2,rfl,⟨⟨V2,y⟩,f,g,X,fun i B=>c i ?_,G⟩⟩;rw[show j=nd.length by omega,AL];exact B
theorem XK{w:World}{own:Bu}{base tb:Nat}{V:TV}{D:TD}{qs:List A4}{S:List A1}{sz sb:Nat}(h:Fi w own base tb V D qs S sz)(hn:own sb=none)(hb:base<=sb)(j:Aw w sb [.pointer (some ⟨tb,0,none⟩),.map none,.slice none 0 0] 292):Fi w (Cj own (3,sb) sb) base tb V D qs S sz/\Lb w (Cj own (3,sb) sb) base tb sb [] (.map none) (.slice none 0 0):=by
 have y:EM sb own (Cj own (3,sb) sb):=by
  refine⟨fun q o e=>?_,fun q o e=>?_⟩
  ·unfold Cj;rw[Af (fun z=>by rw[z,hn]at e;cases e)];exact e
  ·unfold Cj at e
   split at e
   ·exact .inr (by omega)
   ·exact .inl e
 have hl:=j.lt
 have k:He (Cj own (3,sb) sb) base w:=by
  refine⟨fun q o e=>?_,h.ok.base,fun q s e=>?_⟩
  ·unfold Cj at e
   split at e
   ·omega
   ·exact h.ok.lt q o e
  ·unfold Cj at e
   split at e
   ·injection e with e
    injection e with _ e
    omega
   ·exact h.ok.se q s e
 exact⟨h.only (P:=fun _=>False) (A3.ab (Ag _ _)) y k (fun _ _ _ _ _ e=>e),⟨j,DE.nil _ _,N3 _ _ _,D6.bw _ _,D6.bh _ _⟩⟩
theorem BX.out{own own':Bu}{base:Nat}{w w0 w':World}{sb:Nat}(z:He own base w)(hb:Below w.heap.size w w0)(hs:w.heap.size<=sb)(h:BX (Ch sb) (Cj own (3,sb) sb) w0 own' w'):BX Sf own w own' w':=by
 refine⟨(A3.ab (S:=nU own Sf) hb).trans h.only ?_,⟨fun q o e=>h.ext.br q o ?_,fun q o e=>?_⟩⟩
 ·rintro q hq ⟨o,e,c⟩;unfold Cj at e;rw[Af (by omega)]at e;refine⟨o,e,?_⟩;rcases c with c|c|c
  ·exact .inl c
  ·exact .inr c
  ·subst c;have:=z.se q sb e;omega
 ·have:=(z.lt q o e).2;unfold Cj;rw[Af (by omega)];exact e
 ·rcases h.ext.new q o e with j|j
  ·unfold Cj at j
   split at j
   ·exact .inr (by omega)
   ·exact .inl j
  ·exact .inr (Ay hb.size j)
theorem aZ(hcut:JQ){M:Int->R3->Prop}{lay:Int->Nat}{N C base tb:Nat}{D:TD}(J:Nn M lay N C D)(l:Nat)(hF:∀j,j<l->O7 M lay N C base tb D j):O7 M lay N C base tb D l:=by
 intro w own S a hT hI ha hl;obtain⟨V,hT⟩:=hT;have hk:=hT.ok;have Y:Below w.heap.size w ((w.alloc (.cells #[.int .i64 a.n,.int .i64 a.r.a,.int .i64 a.r.b,.int .i64 a.r.c] 223)).alloc (.cells #[.pointer (some ⟨tb,0,none⟩),.map none,.slice none 0 0] 292)):=((Ag w.heap.size w).alloc (Ab _) _).alloc (by simp) _;have O:Aw ((w.alloc (.cells #[.int .i64 a.n,.int .i64 a.r.a,.int .i64 a.r.b,.int .i64 a.r.c] 223)).alloc (.cells #[.pointer (some ⟨tb,0,none⟩),.map none,.slice none 0 0] 292)) (w.heap.size+1) [.pointer (some ⟨tb,0,none⟩),.map none,.slice none 0 0] 292:=by have:=Aw.new (w.alloc (.cells #[.int .i64 a.n,.int .i64 a.r.a,.int .i64 a.r.b,.int .i64 a.r.c] 223)) [.pointer (some ⟨tb,0,none⟩),.map none,.slice none 0 0] 292;simp only[C8]at this;exact this
 have G:own (w.heap.size+1)=none:=by
  cases e:own (w.heap.size+1) with
  |none=>rfl
  |some o=>exact absurd (hk.lt _ o e).2 (by omega)
 obtain⟨I,A⟩:=XK (hT.below Y) G (by have:=hk.base;omega) O;have h0:Sr M lay N C base tb D (w.heap.size+1) l _ (Cj own (3,w.heap.size+1) (w.heap.size+1)) S []:=⟨⟨V,I⟩,⟨_,_,A⟩,hI,Cw,fun i hi=>by cases hi⟩;have HN:=Ao (ZM hcut J _ _ S [] h0 a ha hl);obtain⟨w0,q2⟩:∃w0:World,Hid (w0=((w.alloc (.cells #[.int .i64 a.n,.int .i64 a.r.a,.int .i64 a.r.b,.int .i64 a.r.c] 223)).alloc (.cells #[.pointer (some ⟨tb,0,none⟩),.map none,.slice none 0 0] 292))):=⟨_,rfl⟩;have P:Below w.heap.size w w0:=by rw[q2.out];exact Y
 have E:=fun(own':Bu) (w':World)=>BX.out (own':=own') (w':=w') hk P (show w.heap.size<=w.heap.size+1 by omega);obtain⟨B,R⟩:∃B:Nat,Hid (N*(4*C)*(4*C)*(4*C)=B):=⟨_,rfl⟩;have q5:=J.li.s;rw[R.out]at q5;clear I A h0 O Y;go_enter func149,ntmps149;go_wp2_with (go_at_call 174;refine(HN.out).mono ?_;rintro e w1 ⟨own1,S1,q3,i0,t0,rfl,hn⟩);clear HN;have q7:BX (Ch (w.heap.size+1)) (Cj own (3,w.heap.size+1) (w.heap.size+1)) w0 own1 w1:=by rw[q2.out];exact hn.aw
 go_loopw [7] (fun sv wr=>∃(z:Int) (k:Bu) (S2:List A1) (v:List Nat) (t2:A1),sv=.int .i64 z/\ -1<=z/\z<=(BO S2:Nat)/\Sr M lay N C base tb D (w.heap.size+1) l wr k S2 v/\Eh S1 S2/\q3<+:v/\BX (Ch (w.heap.size+1)) (Cj own (3,w.heap.size+1) (w.heap.size+1)) w0 k wr/\S2[i0]? =some t2/\t0.Le t2/\Hid (z=(BO S2:Nat)->∀i∈v,O9 M D S2 v i)) (fun sv _=>((B:Int)-intOf sv).toNat)
 case atStart=>exact⟨-1,own1,S1,q3,t0,rfl,by omega,by omega,hn.sr,.refl _,By _,q7,hn.ht,.refl _,fun e=>by omega⟩
 case round=>as_aux_lemma=>
  obtain⟨z,k,S2,v,t2,rfl,j1,q8,m,X,W,H,q1,Z,HD⟩:=hrel;obtain⟨V2,L⟩:=m.t;have q4:wr.cell? ⟨tb,10,none⟩=some (.int .i64 (BO S2:Nat)):=L.al.cell 10;have j0:=L.al.lt;have q0:=SD m.inv (fun n x h=>EC J.st J.ro h);rw[R.out]at q0;by_cases f:z=(BO S2:Nat)
  ·have hb:(z != ((BO S2:Nat):Int))=false:=by simp[f]
   have g:=HD.out f;have K:∀i∈v,∃t,S2[i]? =some t/\∀x,M t.q.n x->IN t.q.r x->x∈t.rows:=by intro i hi;obtain⟨t,ht,_⟩:=g i hi;exact⟨t,ht,fun x h1 h2=>bT J.st J.ro m.inv g i t ht (.inr hi) x h1 h2⟩
   have HE:=Ao (mP J wr k S2 v m K);clear HD g;generalize BO S2=y at*;subst f;go_wp2_with (go_at_call 176;refine(HE.out).mono ?_;rintro e w3 ⟨S3,rfl,d⟩)
   go_ret
   obtain⟨t3,Q,U⟩:=d.grow.at' i0 t2 q1;have p:=Z.trans U;refine⟨k,S3,i0,t3,?_,⟨d.tb,d.inv,Q,by rw[p.q,hn.hq],?_,(hn.grow.trans X).trans d.grow,E _ _ (H.trans (d.aw.mono (Sf.ch _)))⟩⟩
   ·rw[p.b];rfl
   ·rcases hn.fin with h1|h1
    ·exact p.fin h1
    ·obtain⟨u,hu,hf⟩:=d.fin i0 (W.subset h1);rw[Q]at hu
     injection hu with hu
     rw[hu];exact hf
  ·have hb:(z != ((BO S2:Nat):Int))=true:=by simp[f]
   have HR:=Ao (X7 hcut J hF wr k S2 v m);clear HD;obtain⟨y,HY⟩:∃y:Nat,Hid (BO S2=y):=⟨_,rfl⟩;rw[HY.out]at q4 f hb q8 q0;go_wp2_with (go_at_call 175;refine(HR.out).mono ?_;rintro e w3 ⟨own3,S3,q9,rfl,d⟩);obtain⟨t3,Q,U⟩:=d.grow.at' i0 t2 q1;have q6:=d.grow.size;rw[HY.out]at q6;refine⟨⟨y,own3,S3,q9,t3,rfl,by omega,by omega,d.sr,X.trans d.grow,W.trans d.sub,H.trans d.aw,Q,Z.trans U,fun e=>d.full (by rw[HY.out];omega)⟩,by simp[intOf];omega⟩
theorem Vy(hcut:JQ){M:Int->R3->Prop}{lay:Int->Nat}{N C base tb:Nat}{D:TD}(q:Nn M lay N C D)(l:Nat):O7 M lay N C base tb D l:=by
 induction l using Nat.strongRecOn with
 |ind l j=>exact aZ hcut q l j
end
section
attribute [local go_sem] AE As
open Go.RowKit Go.WideMaps Go.Maps Go.MuLone
variable [DecidableEq R3] [DecidableEq A4]
section
variable {w:World} {own:Bu} {base tb:Nat} {V:TV} {D:TD} {qs:List A4} {S:List A1} {sz:Nat}
theorem Fi.fp(h:Fi w own base tb V D qs S sz)(u:Value):Fi (w.setCell ⟨tb,0,none⟩ u) own base tb V ⟨u,D.m1,D.ru,D.names,D.ae,D.rules⟩ qs S sz/\A3 (fun q=>own q=some (0,0)) w (w.setCell ⟨tb,0,none⟩ u):=by
 have j:A3 (fun q=>q=tb) w (w.setCell ⟨tb,0,none⟩ u):=(A3.ab (S:=fun q=>q=tb) (Ag _ _)).setCell (p:=⟨tb,0,none⟩) (.inl rfl) _;have r:=fun {e:TypeId} {size n:Nat} {v:Value} {xs:List Value} (hx:w.ownsRow base e size v n xs) (ht:218≠e)=>BI hx j (fun q hq e=>Av hx h.al ht (e▸hq));have m:=fun {k:TypeId} {R:Value->Option (DataW Unit×List MemPlace)} {r n:Nat} {D:DataW Unit} (hx:w.ownsMap prog k R r n D)=>E9 hx h.al;have hb:=h.al.setCell 0 u
 have z:∀{mv lv:Value} {xs:List B8},Cu w base mv lv xs->Cu (w.setCell ⟨tb,0,none⟩ u) base mv lv xs:=by
  intro mv lv xs hx;refine hx.only j (fun q hq e=>Av hx.1 h.al (by decide) (e▸hq)) (fun q hq e=>?_);rcases hx.2.2 with⟨rfl,_⟩|⟨r,D,rfl,_,g,_⟩
  ·simp[AN]at hq
  ·simp only[AN,Al]at hq;exact m g (by omega)
 have y:∀{mv lv:Value} {xs:List A4},C1 w base mv lv xs->C1 (w.setCell ⟨tb,0,none⟩ u) base mv lv xs:=by
  intro mv lv xs hx;refine hx.only j (fun q hq e=>Av hx.1 h.al (by decide) (e▸hq)) (fun q hq e=>?_);rcases hx.2.2 with⟨rfl,_⟩|⟨r,D,rfl,_,g,_⟩
  ·simp[AN]at hq
  ·simp only[AN,Al]at hq;exact m g (by omega)
 have hs:(w.setCell ⟨tb,0,none⟩ u).heap.size=w.heap.size:=by simp[World.setCell]
 refine⟨⟨h.ok.below (by omega),hb,z h.names,z h.ae,r h.rules (by decide),y h.qs,r h.list (by decide),h.ot,h.ef,h.ee,h.dy,h.dv,h.du,h.dt,h.dr,h.dd,?_⟩,j.mono (fun q e=>e▸h.ot)⟩;intro i t ht;obtain⟨ru,mv,lv,c⟩:=h.cz i t ht;exact⟨ru,mv,lv,c.only j (.refl 0 own) (fun q k x b d=>by rw[d,h.ot]at b;rcases x with rfl|rfl<;>simp at b)⟩
end
def RX(nm:ByteArray)(q:Int)(cl:List B8)(x:R3):List Value:=[.string nm,.int .i64 q,.string (bs (cl.getD x.a.toNat [])),.string (bs (cl.getD x.b.toNat [])),.string (bs (cl.getD x.c.toNat []))]
structure WX(M:Int->R3->Prop)(N C base tb:Nat)(D:TD)(w:World)(own:Bu)(S:List A1)(q:A4)(nm:ByteArray)(cn:Int)(v:Value)(w':World)(own':Bu)(S':List A1)(rows:List R3):Prop where
 tb:Tb base tb D w' own' S'
 inv:Hf M N C S'
 grow:Eh S S'
 fl:rows.Nodup
 mem:∀x,x∈rows↔M q.n x/\IN q.r x
 row:w'.ownsRow w.heap.size 80 5 v rows.length (rows.flatMap (RX nm cn D.ae))
 free:∀b,v.ownBlock=some b->own' b=none
 aw:BX (fun _=>True) own w own' w'
theorem YK(hcut:JQ){M:Int->R3->Prop}{lay:Int->Nat}{N C base tb:Nat}{m1 ru:Value}{j5 q0:List B8}{rules:List Dq}{w:World}{own:Bu}{V:TV}{S:List A1}(h:Fi w own base tb V ⟨.int .i32 0,m1,ru,j5,q0,rules⟩ (S.map A1.q) S (BO S))(z:B8)(ats:List B8)(p:Int)(u3:z.length<=12)(g6:∀i,(AO ats i).length<=12)(hc:q0.length<=10000)(b9:j5.length<=10000)
 (x:W3)(HX:Hid (x=CY (j5,q0,[]) z ats))(q:A4)(HQ:Hid (q=CX x.1 x.2.1 x.2.2 z ats))(hX:Nn M lay N C ⟨.int .i32 1,m1,ru,x.1,x.2.1,rules⟩)(hI:Hf M N C S)(hq:YQ N C q)(y8:∀y,M q.n y->y.Ground/\y.a.toNat<x.2.1.length/\y.b.toNat<x.2.1.length/\y.c.toNat<x.2.1.length):
 Calls prog 111 #[.pointer (some ⟨tb,0,none⟩),.agg #[.string (bs z),.int .i64 p,.string (bs (AO ats 0)),.string (bs (AO ats 1)),.string (bs (AO ats 2))]] w fun e w'=>∃(v:Value) (own':Bu) (S':List A1) (rows:List R3),e=.returned v/\WX M N C base tb ⟨.int .i32 0,m1,ru,x.1,x.2.1,rules⟩ w own S q (bs z) p v w' own' S' rows:=by
 have j6:=Ac w (.cells #[.string (bs z),.int .i64 p,.string (bs (AO ats 0)),.string (bs (AO ats 1)),.string (bs (AO ats 2))] 80);have v8:=Aw.new w [.string (bs z),.int .i64 p,.string (bs (AO ats 0)),.string (bs (AO ats 1)),.string (bs (AO ats 2))] 80;have h0:=h.below j6
 have q9:own w.heap.size=none:=by
  cases e:own w.heap.size with
  |none=>rfl
  |some o=>exact absurd (h.ok.lt _ o e).2 (by omega)
 have v9:w.heap.size≠tb:=fun e=>by rw[e,h.ot]at q9;cases q9
 have HL:=Ao (lock_free jF ⟨tb,0,none⟩ _ (h0.al.cell 0) (h0.al.frozen 0))
 go_enter_defers func111,ntmps111
 go_wp2_with (go_at_call 147;refine(HL.out).mono ?_;rintro e w2 ⟨rfl,j3⟩;obtain⟨Q,q3⟩:=h0.fp (.int .i32 1);rw[<-j3]at Q q3;have s:=v8.setOther ⟨tb,0,none⟩ (.int .i32 1) v9;rw[<-j3]at s;clear j3;have b5:=s.lt;have b7:=Q.al.lt)
 have u8:own w2.heap.size=none:=by
  cases e:own w2.heap.size with
  |none=>rfl
  |some o=>exact absurd (Q.ok.lt _ o e).2 (by omega)
 have R:Below w2.heap.size w2 (w2.alloc (.cells #[.map none,.slice none 0 0] 178)).drew:=(Ac w2 _).drew;have z9:Aw (w2.alloc (.cells #[.map none,.slice none 0 0] 178)).drew w2.heap.size [.map none,.slice none 0 0] 178:=(Aw.new w2 _ _).drew;obtain⟨z8,k7⟩:=Wz (Q.below R) u8 Q.ok.base z9;have q4:=s.below R;have HC:=Ao (K8 z8 k7 z ats p u3 g6 (by simp only;omega) (by simp only;omega) (by simp));simp only at HC;rw[<-HX.out,<-HQ.out]at HC;have j8:Calls prog 150 #[.pointer (some ⟨tb,2,none⟩),.agg #[.string (bs z),.int .i64 p,.string (bs (AO ats 0)),.string (bs (AO ats 1)),.string (bs (AO ats 2))],.pointer (some ⟨w2.heap.size,0,none⟩)] (w2.alloc (.cells #[.map none,.slice none 0 0] 178)).drew fun e w'=>∃(own':Bu) (V':TV) (b3 lv':Value),e=.returned (.agg #[.int .i64 q.n,.int .i64 q.r.a,.int .i64 q.r.b,.int .i64 q.r.c])/\Fi w' own' base tb V' ⟨.int .i32 1,m1,ru,x.1,x.2.1,rules⟩ (S.map A1.q) S (BO S)/\GW w' own' base w2.heap.size x.2.2 b3 lv'/\BX UC (Cj own (5,0) w2.heap.size) (w2.alloc (.cells #[.map none,.slice none 0 0] 178)).drew own' w':=HC.out;have HC:=Ao j8;clear j8;have z7:w.heap.size≠w2.heap.size:=by omega
 have H:Cj own (5,0) w2.heap.size w.heap.size=none:=by unfold Cj;rw[Af z7];exact q9
 have y6:∀(m:Bu) (w4:World),BX UC (Cj own (5,0) w2.heap.size) (w2.alloc (.cells #[.map none,.slice none 0 0] 178)).drew m w4->BX (fun _=>True) own w m w4:=by intro m w4 hg;have e1:BX (fun _=>True) own w own w2:=(BX.below j6).trans (BX.one q3 trivial);exact e1.trans ((BX.fm Q.ok R (Ab _) hg).mono (fun _ _=>trivial))
 have HF:=Ao (Vy (base:=base) (tb:=tb) hcut hX (lay q.n))
 go_cut [6] from 16 to 44 (fun y wx=>∃(t:A1) (d:Bu) (I:List A1) (j:Nat),y=.pointer (some ⟨t.b,0,none⟩)/\Tb base tb ⟨.int .i32 1,m1,ru,x.1,x.2.1,rules⟩ wx d I/\Hf M N C I/\I[j]? =some t/\t.q=⟨q.n,q.r.kind⟩/\t.fin=true/\Eh S I/\BX (fun _=>True) own w d wx/\Aw wx w.heap.size [.string (bs z),.int .i64 p,.string (bs (AO ats 0)),.string (bs (AO ats 1)),.string (bs (AO ats 2))] 80/\d w.heap.size=none)
 case first=>as_aux_lemma=>
  have y0:w2.cell? ⟨w.heap.size,0,none⟩=some (.string (bs z)):=s.cell 0;have y1:w2.cell? ⟨w.heap.size,1,none⟩=some (.int .i64 p):=s.cell 1;have y2:w2.cell? ⟨w.heap.size,2,none⟩=some (.string (bs (AO ats 0))):=s.cell 2;have y3:w2.cell? ⟨w.heap.size,3,none⟩=some (.string (bs (AO ats 1))):=s.cell 3;have y4:w2.cell? ⟨w.heap.size,4,none⟩=some (.string (bs (AO ats 2))):=s.cell 4;refine wp_region_noPanic ?_
  go_region_with (first|(go_at_call 150;refine(HC.out).mono ?_;rintro e w4 ⟨m,V4,d5,d4,rfl,u1,d1,q5⟩)|(go_at_call 149;refine(HF.out _ m S q ⟨V4,u1⟩ hI hq (Ab _)).mono ?_;rintro e w5 ⟨d,I,j,t,rfl,A⟩))
  all_goals refine NoPanic.normal ?_
  all_goals go_wp2_with fail
  all_goals go_meet
  all_goals
   have j9:=q4.aw q5 H;have k5:=q5.none q4.lt H;exact⟨t,d,I,j,rfl,A.tb,A.inv,A.ht,A.hq,A.fin,A.grow,(y6 m w4 q5).trans (A.aw.mono (fun _ _=>trivial)),j9.aw A.aw k5,A.aw.none j9.lt k5⟩
 case rest=>
  clear HC HF z8 k7 z9 q4 R Q q3 y6 s;obtain⟨t,d,I,j,rfl,⟨V5,X⟩,q2,j1,u9,u5,v4,y5,z5,b8⟩:=hcut;obtain⟨w5,g7⟩:∃y:World,y=wc:=⟨wc,rfl⟩;subst g7;obtain⟨d6,tm,tl,l⟩:=X.cz j t j1;have b6:=l.al.lt;have O:=Ao (Vm w5 base t.b 1 tm tl t.rows (l.al.cell 2) l.rows);go_wp2_with (go_at_call 151;refine(O.out).mono ?_;rintro e w9 ⟨he,d2⟩;subst w9;subst he);clear O;have q6:=bA q2 (AP j1) u5 u9;have g3:=NS q2 (fun n x h=>EC hX.st hX.ro h) (AP j1);have v6:=hX.li.r;obtain⟨i1,u7,g9,b0,b1⟩:=Bc TC;obtain⟨B,v0⟩:∃B:Nat,Hid (1*C*C*C=B):=⟨_,rfl⟩;rw[v0.out]at g3 v6
  go_loopw [7,27] (fun av iv wr=>∃(k:Nat),k<=t.rows.length/\iv=.int .i64 (k:Nat)/\wr.ownsRow w5.heap.size 80 5 av k ((t.rows.take k).flatMap (RX (bs z) p x.2.1))/\Below w5.heap.size w5 wr) (fun _ iv _=>t.rows.length-(intOf iv).toNat)
  case atStart=>exact⟨0,Cq _,rfl,Ak _ _ _ _,Ag _ _⟩
  case round=>
   obtain⟨k,hk,rfl,hA,hB⟩:=hrel;by_cases q8:k<t.rows.length
   ·have hd:decide ((k:Int)<(t.rows.length:Int))=true:=by simp;omega
    have b2:=(q6.2 t.rows[k]).1 (Aj q8);have j2:=Ad q8;have y9:=y8 _ b2.1;have y7:=fun W=>jM W base t.b 1 tm tl t.rows;obtain⟨y,j4⟩:∃y,t.rows[k]=y:=⟨_,rfl⟩;rw[j4]at y9 j2;obtain⟨hg,l0,l1,l2⟩:=y9;have g0:=hg y.a (.inl rfl);have g1:=hg y.b (.inr (.inl rfl));have g2:=hg y.c (.inr (.inr rfl));obtain⟨n0,e0⟩:∃n0:Nat,y.a=(n0:Nat):=⟨y.a.toNat,by omega⟩;obtain⟨Z,e1⟩:∃Z:Nat,y.b=(Z:Nat):=⟨y.b.toNat,by omega⟩;obtain⟨Y,e2⟩:∃Y:Nat,y.c=(Y:Nat):=⟨y.c.toNat,by omega⟩;have k9:∀W,Below w5.heap.size w5 W->Calls prog 153 #[.pointer (some ⟨t.b,1,none⟩),.int .i64 k] W fun e w'=>e=.returned (.agg #[.int .i64 (n0:Nat),.int .i64 (Z:Nat),.int .i64 (Y:Nat)])/\Below W.heap.size W w':=by intro W hb;have:=y7 W ((l.al.below hb).cell 2) (l.rows.below hb) k q8;rw[j4,e0,e1,e2]at this;exact this
    rw[e0]at l0;rw[e1]at l1;rw[e2]at l2
    have k8:∀W,Below w5.heap.size w5 W->Calls prog 152 #[.pointer (some ⟨tb,2,none⟩),.agg #[.string (bs z),.int .i64 p,.string (bs (AO ats 0)),.string (bs (AO ats 1)),.string (bs (AO ats 2))],.agg #[.int .i64 (n0:Nat),.int .i64 (Z:Nat),.int .i64 (Y:Nat)]] W fun e w'=>e=.returned (.agg #[.string (bs z),.int .i64 p,.string (bs (x.2.1.getD n0 [])),.string (bs (x.2.1.getD Z [])),.string (bs (x.2.1.getD Y []))])/\Below W.heap.size W w':=by
     intro W hb;have q7:∀n,n<x.2.1.length->x.2.1[n]? =some (x.2.1.getD n []):=fun n hn=>by rw[Ap,Ar hn];rfl
     exact cS (X.below hb) (bs z) _ _ _ p n0 Z Y _ _ _ (q7 n0 (by simpa using l0)) (q7 Z (by simpa using l1)) (q7 Y (by simpa using l2))
    have G:RX (bs z) p x.2.1 y=[.string (bs z),.int .i64 p,.string (bs (x.2.1.getD n0 [])),.string (bs (x.2.1.getD Z [])),.string (bs (x.2.1.getD Y []))]:=by unfold RX;rw[e0,e1,e2];rfl
    have HK:=Ao G;have v1:=Ao j2;clear G j2 y7 e0 e1 e2 g0 g1 g2 j4;obtain⟨ao,cap,rfl⟩:=Au hA;have U:=z5.below hB;have z0:wr.cell? ⟨w.heap.size,0,none⟩=some (.string (bs z)):=U.cell 0;have z1:wr.cell? ⟨w.heap.size,1,none⟩=some (.int .i64 p):=U.cell 1;have z2:wr.cell? ⟨w.heap.size,2,none⟩=some (.string (bs (AO ats 0))):=U.cell 2;have z3:wr.cell? ⟨w.heap.size,3,none⟩=some (.string (bs (AO ats 1))):=U.cell 3;have z4:wr.cell? ⟨w.heap.size,4,none⟩=some (.string (bs (AO ats 2))):=U.cell 4;have g5:=hB.size;go_wp2_with fail;refine wp_region_noPanic ?_
    go_region_law (first|(refine CP _ rfl (.tmp 30) (.tmp 41) 181 rfl w5.heap.size 80 i1 _ 5 72 underlying181 u7 g9 b0 b1 rfl (by decide) (.slice ao k cap) k _ (by simp[Act.eval]) v2 ⟨w7.heap.size,0,none⟩ 1 1 [.string (bs z),.int .i64 p,.string (bs (x.2.1.getD n0 [])),.string (bs (x.2.1.getD Z [])),.string (bs (x.2.1.getD Y []))] (by simp[Act.eval]) (by decide) rfl j0 k6 (by unfold maxLen;omega) (by omega) u4 ?_;intro g b4 w8 v5 u6 d3)|(go_simp;go_wp2_with (first|(go_at_call 153;refine(k9 _ hB.drew).mono ?_;rintro e w6 ⟨rfl,q1⟩;have J:Below w5.heap.size w5 w6:=hB.drew.trans (q1.mono g5);have K:=z5.below J;have k0:w6.cell? ⟨w.heap.size,0,none⟩=some (.string (bs z)):=K.cell 0;have k1:w6.cell? ⟨w.heap.size,1,none⟩=some (.int .i64 p):=K.cell 1;have k2:w6.cell? ⟨w.heap.size,2,none⟩=some (.string (bs (AO ats 0))):=K.cell 2;have k3:w6.cell? ⟨w.heap.size,3,none⟩=some (.string (bs (AO ats 1))):=K.cell 3;have k4:w6.cell? ⟨w.heap.size,4,none⟩=some (.string (bs (AO ats 2))):=K.cell 4;have g4:=J.size)|(go_at_call 152;refine(k8 _ J).mono ?_;rintro e w7 ⟨rfl,j7⟩;have L:Below w5.heap.size w5 w7:=J.trans (j7.mono g4);have d0:=L.size;have v2:=(Ah hA ((Ag wr.heap.size wr).drew.trans (q1.trans (j7.mono q1.size)))).alloc (.cells #[.string (bs z),.int .i64 p,.string (bs (x.2.1.getD n0 [])),.string (bs (x.2.1.getD Z [])),.string (bs (x.2.1.getD Y []))] 80);have j0:=AS w7 [Value.string (bs z),.int .i64 p,.string (bs (x.2.1.getD n0 [])),.string (bs (x.2.1.getD Z [])),.string (bs (x.2.1.getD Y []))] 80;have k6:∀u∈[Value.string (bs z),.int .i64 p,.string (bs (x.2.1.getD n0 [])),.string (bs (x.2.1.getD Z [])),.string (bs (x.2.1.getD Y []))],u.oneCell'=true:=(by intro u hu;simp only[Br,dR,lU]at hu;rcases hu with rfl|rfl|rfl|rfl|rfl<;>rfl);have u4:w5.heap.size<=(w7.alloc (.cells #[.string (bs z),.int .i64 p,.string (bs (x.2.1.getD n0 [])),.string (bs (x.2.1.getD Z [])),.string (bs (x.2.1.getD Y []))] 80)).heap.size:=(by simp;omega)))))
    all_goals refine NoPanic.normal ?_
    all_goals go_wp2_with fail
    all_goals
     have u0:(t.rows.take (k+1)).flatMap (RX (bs z) p x.2.1)=(t.rows.take k).flatMap (RX (bs z) p x.2.1)++[.string (bs z),.int .i64 p,.string (bs (x.2.1.getD n0 [])),.string (bs (x.2.1.getD Z [])),.string (bs (x.2.1.getD Y []))]:=by rw[v1.out,BG,Cg,List.flatMap_nil,BC,HK.out]
     refine⟨⟨k+1,by omega,by simp,?_,?_⟩,?_⟩
     ·rw[u0];exact v5
     ·exact(((A3.ab (S:=fun _=>False) L).alloc _).grown u6 (fun q hq=>.inr (hA.lt q hq).1)).below (Ab _) (fun _ h=>h.elim)
     ·simp[intOf];omega
   ·have hd:decide ((k:Int)<(t.rows.length:Int))=false:=by simp;omega
    rw[show k=t.rows.length by omega,AL]at hA;clear HC HL;go_wp2_with fail;have E:=X.below hB;refine leaves_cons (P:=prog) (f:=148) (args:=#[.pointer (some ⟨tb,0,none⟩)]) (by simp) (by simp[go_sem]) ?_;refine(unlock_deferred jF ⟨tb,0,none⟩ .returning _ (E.al.cell 0) (E.al.frozen 0)).mono ?_;rintro e u' d7 ⟨rfl,rfl,rfl⟩;obtain⟨u2,v7⟩:=E.fp (.int .i32 0);have v3:=AJ hA ⟨tb,0,none⟩ (.int .i32 0) (Av hA E.al (by decide));have g8:=y5.only.size;refine⟨_,results_tmp rfl _ _ _,_,d,I,t.rows,rfl,⟨⟨V5,u2⟩,q2,v4,q6.1,q6.2,?_,?_,y5.trans ((BX.below hB).trans (BX.one v7 trivial))⟩⟩
    ·exact v3.mono g8
    ·intro b hb
     cases e:d b with
     |none=>rfl
     |some o=>exact absurd (X.ok.lt _ o e).2 (by have:=(hA.lt b hb).1;omega)
end
end Go.Proofs.YtpbfiffgcgnidaaGreatDoor
