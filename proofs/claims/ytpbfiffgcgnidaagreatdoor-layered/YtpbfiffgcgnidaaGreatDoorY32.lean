import Derived.Test.YtpbfiffgcgnidaaGreatDoorYal
import Derived.Test.YtpbfiffgcgnidaaGreatDoorY25
import Derived.Test.YtpbfiffgcgnidaaGreatDoorY31
namespace Go.Proofs.YtpbfiffgcgnidaaGreatDoor
set_option maxRecDepth 100000
set_option maxHeartbeats 4000000
set_option linter.unusedSimpArgs false
open Go.Proofs.Tryz
section
attribute [local go_sem] AE As
open Go.RowKit Go.WideMaps Go.Maps
def qA(a:RA):List Value:=Bp a.name (a.ts.map RT.s)
def qS(a:RA):List Value:=CA 0 a.pl (a.ts.map RT.pl)
def GB(w:World)(cs:List RC)(s:ByteArray)(e:Ending)(w':World):Prop:=
 (if(Cn cs s).1=0 then ∃a,B0 s=some a/\e=.returned (.tuple #[.agg (qA a).toArray,.agg (qS a).toArray,.int .i64 0,.int .i64 0]) else e=.returned (.tuple #[.agg zA.toArray,.agg zS.toArray,.int .i64 ((Cn cs s).1:Nat),.int .i64 ((Cn cs s).2:Nat)]))/\Below w.heap.size w w'
theorem Ra(w:World)(base bb:Nat)(cs:List RC)(c:Dm w base bb (cs.map RC.d))(hW:∀d∈cs.map RC.d,d.WF)(hn:cs.length<=40)(s:ByteArray)(hs:s.size<=maxLen):
 Calls prog 68 #[.pointer (some ⟨bb,0,none⟩),.string s] w fun e w'=>GB w cs s e w':=by
 by_cases p:2000<s.size
 ·have v:Cn cs s=(1,0):=by unfold Cn;rw[Ai p]
  refine(Pv w bb s hs p).mono ?_;rintro e w' ⟨rfl,k⟩;unfold GB;rw[v,Af (by decide)];exact⟨rfl,k⟩
 ·have hq:=FO s
  cases ht:B0 s with
  |none=>
   rw[ht]at hq;simp only[]at hq;have v:Cn cs s=(2,G4 s.data.toList):=by unfold Cn;rw[Af p,ht]
   refine(Pw w bb s (by omega) hq).mono ?_;rintro e w' ⟨rfl,k⟩;unfold GB;rw[v,Af (by simp),QL s hq];exact⟨rfl,k⟩
  |some a=>
   rw[ht]at hq;obtain⟨hok,⟨r,n⟩,_⟩:=hq;have q:Cc s=⟨true,a.name,a.ts.map RT.s,a.pl,a.ts.map RT.pl,r⟩:=n;have y:(Cc s).ok=true:=by rw[q]
   have z:(AD (Cc s).rest).isEmpty=true:=by unfold U4 at hok;rw[n,BD]at hok;rw[q];exact hok
   have g:(Cc s).name.length<=12:=(LR s s.data.toList).name;have u:(cs.map RC.d).length<=40:=by simpa using hn
   have b:Cn cs s=if 0<=Cz (A2 cs) a.name/\Cz (A2 cs) a.name≠((a.ts.length:Nat):Int) then(3,a.pl) else(0,0):=by unfold Cn;rw[Af p,ht]
   have t:=aT cs a.name a.ts.length
   have m:Qu cs a.name a.ts.length=true->GB w cs s=fun e w'=>e=.returned (.tuple #[.agg (Bp (Cc s).name (Cc s).ts).toArray,.agg (CA 0 (Cc s).np (Cc s).ps).toArray,.int .i64 0,.int .i64 0])/\Below w.heap.size w w':=by
    intro j;have v:Cn cs s=(0,0):=by rw[b,Af (fun h=>by rw[t.2 h]at j;simp at j)]
    funext e w'
    unfold GB;rw[v,Ai rfl,q];apply propext;constructor
    ·rintro⟨⟨a',h1,h2⟩,k⟩;rw[ht]at h1;obtain rfl:=Be h1;exact⟨h2,k⟩
    ·rintro⟨h2,k⟩;exact⟨⟨a,ht,h2⟩,k⟩
   cases j:Qu cs a.name a.ts.length
   ·have v:Cn cs s=(3,a.pl):=by rw[b,Ai (t.1 j)]
    unfold Qu at j;rw[Bb,Bool.not_eq_false',Az]at j;refine(NV w base bb (cs.map RC.d) c hW u s (by omega) y z (by rw[q];exact j.1) (by rw[q];simpa using j.2) g).mono ?_;rintro e w' ⟨rfl,k⟩;unfold GB;rw[v,Af (by simp),q];exact⟨rfl,k⟩
   ·rw[m j];cases hk:BZ (Cv (cs.map RC.d)).1 a.name
    ·exact Rf w base bb (cs.map RC.d) c hW u s (by omega) y z (by rw[q];exact hk) g
    ·unfold Qu at j;rw[hk,Bool.not_true,CJ,Co]at j;exact SW w base bb (cs.map RC.d) c hW u s (by omega) y z (by rw[q];exact hk) (by rw[q];simpa using j) g
theorem jJ(ts:List RT)(q:∀t∈ts,t.var=Bo t.s)(k:Nat):match EV ts with
 |none=>LI k (ts.map RT.s)= -1
 |some p=>∃i,i<ts.length/\LI k (ts.map RT.s)=((k+i:Nat):Int)/\(ts.map RT.pl).getD i 0=p:=by
 induction ts generalizing k with
 |nil=>rfl
 |cons t r z=>
  have h1:=q t (by simp);have h2:=z (fun x hx=>q x (by simp[hx])) (k+1);rw[EV,A6,LI,<-h1];cases hv:t.var
  ·simp only[An,AM]
   cases hg:EV r with
   |none=>rw[hg]at h2;exact h2
   |some p=>rw[hg]at h2;obtain⟨i,hi,h3,j⟩:=h2;exact⟨i+1,by simp;omega,by rw[h3];congr 1;omega,by simpa using j⟩
  ·simp only[Bk];exact⟨0,by simp,by simp,by simp⟩
def E0(cs:List RC)(s:ByteArray):Nat×Nat:=
 if(Cn cs s).1≠0 then Cn cs s
 else match B0 s with
  |none=>(0,0)
  |some a=>match EV a.ts with
   |some p=>(6,p)
   |none=>(0,0)
def I9(w:World)(cs:List RC)(s:ByteArray)(e:Ending)(w':World):Prop:=
 (if(E0 cs s).1=0 then ∃a,B0 s=some a/\e=.returned (.tuple #[.agg (qA a).toArray,.int .i64 0,.int .i64 0]) else e=.returned (.tuple #[.agg zA.toArray,.int .i64 ((E0 cs s).1:Nat),.int .i64 ((E0 cs s).2:Nat)]))/\Below w.heap.size w w'
theorem P1{w w':World}{cs:List RC}{s:ByteArray}{x y:Nat}(h:E0 cs s=(x,y))(hx:x≠0)(q:Below w.heap.size w w'):I9 w cs s (.returned (.tuple #[.agg zA.toArray,.int .i64 (x:Nat),.int .i64 (y:Nat)])) w':=by unfold I9;rw[h,Af hx];exact⟨rfl,q⟩
theorem Rb(w:World)(base bb:Nat)(cs:List RC)(m:Dm w base bb (cs.map RC.d))(hW:∀d∈cs.map RC.d,d.WF)(hn:cs.length<=40)(s:ByteArray)(hs:s.size<=maxLen)(q:(Cn cs s).1≠0):
 Calls prog 37 #[.pointer (some ⟨bb,0,none⟩),.string s] w fun e w'=>I9 w cs s e w':=by
 obtain⟨x,z⟩:∃x,Hid ((Cn cs s).1=x):=⟨_,rfl⟩;obtain⟨y,u⟩:∃y,Hid ((Cn cs s).2=y):=⟨_,rfl⟩;have c:=Ao (show E0 cs s=(x,y) by unfold E0;rw[Ai q,<-z.out,<-u.out]);have r:=Ao (fun(W:World) (h:Dm W base bb (cs.map RC.d))=>Ra W base bb cs h hW hn s hs);rw[z.out]at q;have q0:(((x:Nat):Int) != 0)=true:=by rw[GG];omega
 have t:=Aw.new w zA 80;have k:Below w.heap.size w (w.alloc (.cells zA.toArray 80)):=Ac _ _;go_enter func37,ntmps37;go_wp2_with fail;refine(r.out _ (by exact m.below k)).mono ?_;rintro e w1 ⟨p,g⟩;rw[z.out,u.out,Af q]at p;subst p;have j:=t.below g;have q1:=j.lt;have q2:w.heap.size<w1.heap.size+1:=by omega
 have fP:=j.frozen;obtain⟨a0,a1,a2,a3,a4⟩:=j.c5;have b:Below w.heap.size w w1:=k.trans (g.mono (by simp));clear t k j r;unfold zA zS;go_wp2_with fail;refine Aq (v:=.tuple #[.agg zA.toArray,.int .i64 (x:Nat),.int .i64 (y:Nat)]) (by simp[results,results37,go_sem,zA, *]) rfl ?_;refine P1 c.out q ?_;refine DU ?_ (by simp;omega) _;refine DU ?_ (by simp;omega) _
 repeat (refine AQ ?_ (by simp only[];omega) _)
 exact b
def lH(nm q j z:ByteArray)(n i:Int):Prop:=∀W:World,Calls prog 69 #[.agg #[.string nm,.int .i64 n,.string q,.string j,.string z]] W fun e w'=>e=.returned (.int .i64 i)/\Below W.heap.size W w'
theorem Pu(w:World)(base bb:Nat)(ds:List Bd)(C:Dm w base bb ds)(s:ByteArray)(nm d t r:ByteArray)(n np f a o:Int)(Y:Hid (∀W:World,Dm W base bb ds->Calls prog 68 #[.pointer (some ⟨bb,0,none⟩),.string s] W fun e w'=>e=.returned (.tuple #[.agg #[.string nm,.int .i64 n,.string d,.string t,.string r],.agg #[.int .i64 0,.int .i64 np,.int .i64 f,.int .i64 a,.int .i64 o],.int .i64 0,.int .i64 0])/\Below W.heap.size W w')):
 (Hid (lH nm d t r n (-1))->Calls prog 37 #[.pointer (some ⟨bb,0,none⟩),.string s] w fun e w'=>e=.returned (.tuple #[.agg #[.string nm,.int .i64 n,.string d,.string t,.string r],.int .i64 0,.int .i64 0])/\Below w.heap.size w w')/\
 (∀(i:Nat) (p:Int),i<3->Hid (p=if i=0 then f else if i=1 then a else o)->Hid (lH nm d t r n (i:Nat))->Calls prog 37 #[.pointer (some ⟨bb,0,none⟩),.string s] w fun e w'=>e=.returned (.tuple #[.agg zA.toArray,.int .i64 6,.int .i64 p])/\Below w.heap.size w w'):=by
 have Z:=Ao C;have b:=Ao (Aw.new w zA 80);have g:=Ao (Ac w (.cells zA.toArray 80));clear C;constructor
 ·intro l;go_enter func37,ntmps37;go_wp2_with fail;refine(Y.out _ (by exact Z.out.below g.out)).mono ?_;rintro e w1 ⟨rfl,z⟩;have k:=b.out.below z;have j:Below w.heap.size w w1:=g.out.trans (z.mono (by simp));have Q:=EI w1 [.string nm,.int .i64 n,.string d,.string t,.string r] 80 [.int .i64 0,.int .i64 np,.int .i64 f,.int .i64 a,.int .i64 o] 141;go_wp2_with fail;refine(l.out _).mono ?_;rintro e w2 ⟨rfl,q⟩;have y:Below w1.heap.size w1 ((w1.alloc (.cells #[.string nm,.int .i64 n,.string d,.string t,.string r] 80)).alloc (.cells #[.int .i64 0,.int .i64 np,.int .i64 f,.int .i64 a,.int .i64 o] 141)):=((Ag _ w1).alloc (Ab _) _).alloc (by simp) _;have u:=(k.below y).below q;have m:=Q.below q;have R:w.heap.size<w1.heap.size:=k.lt;have P:w1.heap.size<w2.heap.size:=m.lt;have q1:w.heap.size<w1.heap.size+1:=by omega
  have c:=Ao ((j.trans (y.mono (by omega))).trans (q.mono (by simp;omega)));have M:=u.frozen;obtain⟨a0,V,U,G,B⟩:=u.c5;obtain⟨c0,c1,c2,c3,c4⟩:=m.c5;clear u m k Q y z j q Y l Z b g;go_wp2_with fail
  ·refine Aq (v:=.tuple #[.agg #[.string nm,.int .i64 n,.string d,.string t,.string r],.int .i64 0,.int .i64 0]) (by simp[results,results37,go_sem,a0,V,U,G,B]) rfl ⟨rfl,?_⟩
   repeat (refine AQ ?_ (by simp only[];omega) _)
   exact c.out
 ·intro i p N K l;have hc:i=0\/i=1\/i=2:=by omega
  clear N;rcases hc with rfl|rfl|rfl
  all_goals
   go_enter func37,ntmps37;go_wp2_with fail;refine(Y.out _ (by exact Z.out.below g.out)).mono ?_;rintro e w1 ⟨rfl,z⟩;have k:=b.out.below z;have j:Below w.heap.size w w1:=g.out.trans (z.mono (by simp));have J:=C9 w1 (.cells #[.string nm,.int .i64 n,.string d,.string t,.string r] 80) [.int .i64 0,.int .i64 np,.int .i64 f,.int .i64 a,.int .i64 o] 141;go_wp2_with fail;refine(l.out _).mono ?_;rintro e w2 ⟨rfl,q⟩;have y:Below w1.heap.size w1 ((w1.alloc (.cells #[.string nm,.int .i64 n,.string d,.string t,.string r] 80)).alloc (.cells #[.int .i64 0,.int .i64 np,.int .i64 f,.int .i64 a,.int .i64 o] 141)):=((Ag _ w1).alloc (Ab _) _).alloc (by simp) _;have u:=(k.below y).below q;have x:=J.below q;have R:w.heap.size<w1.heap.size:=k.lt;have P:w1.heap.size+1<w2.heap.size:=x.lt;have c:=Ao ((j.trans (y.mono (by omega))).trans (q.mono (by simp;omega)));have M:=u.frozen;obtain⟨a0,V,U,G,B⟩:=u.c5;obtain⟨d0,d1,d2,d3,d4⟩:=x.c5;have q0:w.heap.size≠w1.heap.size+1:=by omega
   clear u x k J y z j q Y l Z b g;go_wp2_with fail;go_region
   all_goals go_wp2_with fail
   all_goals
    refine Aq (v:=.tuple #[.agg #[.string ⟨#[]⟩,.int .i64 0,.string ⟨#[]⟩,.string ⟨#[]⟩,.string ⟨#[]⟩],.int .i64 6,.int .i64 _]) (by simp[results,results37,go_sem,a0,V,U,G,B];rfl) rfl ⟨?_,?_⟩
    ·rw[K.out];rfl
    ·refine DB ?_
     repeat (refine AQ ?_ (by simp only[];omega) _)
     exact c.out
end
section
open Go.RowKit Go.WideMaps Go.Maps
theorem Ns(w:World)(base bb:Nat)(cs:List RC)(r:Dm w base bb (cs.map RC.d))(hW:∀d∈cs.map RC.d,d.WF)(hn:cs.length<=40)(s:ByteArray)(hs:s.size<=maxLen):
 Calls prog 37 #[.pointer (some ⟨bb,0,none⟩),.string s] w fun e w'=>I9 w cs s e w':=by
 by_cases z:(Cn cs s).1≠0
 ·exact Rb w base bb cs r hW hn s hs z
 ·obtain⟨a,hq,hok⟩:=OT (by simpa using z);have u:=EA hq;have v:∀t∈a.ts,t.var=Bo t.s:=by have h:=FO s;rw[hq]at h;exact h.2.2.2.2
  have h3:(a.ts.map RT.s).length<=3:=by simpa using u.bp
  have x:Hid (∀W:World,Dm W base bb (cs.map RC.d)->Calls prog 68 #[.pointer (some ⟨bb,0,none⟩),.string s] W fun e w'=>e=.returned (.tuple #[.agg #[.string (bs a.name),.int .i64 ((a.ts.map RT.s).length:Nat),.string (bs ((a.ts.map RT.s).getD 0 [])),.string (bs ((a.ts.map RT.s).getD 1 [])),.string (bs ((a.ts.map RT.s).getD 2 []))],.agg #[.int .i64 0,.int .i64 (a.pl:Nat),.int .i64 ((a.ts.map RT.pl).getD 0 0:Nat),.int .i64 ((a.ts.map RT.pl).getD 1 0:Nat),.int .i64 ((a.ts.map RT.pl).getD 2 0:Nat)],.int .i64 0,.int .i64 0])/\Below W.heap.size W w'):=by intro W h;refine(Ra W base bb cs h hW hn s hs).mono ?_;rintro e w' ⟨c,y⟩;rw[hok,Ai rfl]at c;obtain⟨a',h1,h2⟩:=c;rw[hq]at h1;obtain rfl:=Be h1;exact⟨h2,y⟩
  have q:=Pu w base bb (cs.map RC.d) r s _ _ _ _ _ _ _ _ _ x;have j:=jJ a.ts v 0;have k:∀i:Int,fv (a.ts.map RT.s)=i->Hid (lH (bs a.name) (bs ((a.ts.map RT.s).getD 0 [])) (bs ((a.ts.map RT.s).getD 1 [])) (bs ((a.ts.map RT.s).getD 2 [])) ((a.ts.map RT.s).length:Nat) i):=by intro i n W;have h:=JL W (bs a.name) (a.ts.map RT.s) h3;rw[n]at h;exact h
  cases hg:EV a.ts with
  |none=>
   rw[hg]at j;have g:E0 cs s=(0,0):=by unfold E0;rw[hok,Af (by simp),hq];simp only[];rw[hg]
   refine(q.1 (k (-1) j)).mono ?_;rintro e w' ⟨rfl,y⟩;unfold I9;rw[g,Ai rfl];exact⟨⟨a,hq,rfl⟩,y⟩
  |some p=>
   rw[hg]at j;obtain⟨i,n,m,f⟩:=j;rw[B7]at m;have g:E0 cs s=(6,p):=by unfold E0;rw[hok,Af (by simp),hq];simp only[];rw[hg]
   have b:i<3:=by have:=u.bp;omega
   refine(q.2 i ((p:Nat):Int) b (Ao (by
    rw[<-f];have hc:i=0\/i=1\/i=2:=by omega
    rcases hc with rfl|rfl|rfl<;>rfl)) (k _ m)).mono ?_
   rintro e w' ⟨rfl,y⟩;exact P1 g (by decide) y
theorem Fl.only{S:Nat->Prop}{w w':World}{base:Nat}{d:Bd}{cs:List Value}(h:Fl w base d cs)(z:A3 S w w')(ht:Df w S 186):Fl w' base d cs:=by obtain⟨j,hc,q⟩:=h;exact⟨j,hc,BI q z (F2 q ht)⟩
theorem AY.only{S:Nat->Prop}{w w':World}{base:Nat}{v:Value}{ds:List Bd}(h:AY w base v ds)(q:A3 S w w')(ht:Df w S 186)(hn:∀k,v.ownBlock=some k->¬S k):AY w' base v ds:=by obtain⟨rows,y,z,j⟩:=h;exact⟨rows,BI y q hn,z,fun i d cs h1 h2=>(j i d cs h1 h2).only q ht⟩
def GL(w:World)(base bb:Nat)(v:Value)(r:(Nat×Nat)×List RC)(e:Ending)(w':World):Prop:=
 e=.returned (.tuple #[.int .i64 (r.1.1:Nat),.int .i64 (r.1.2:Nat)])/\(∃v',Aw w' bb [v'] 59/\AY w' base v' (r.2.map RC.d)/\(v'.ownBlock=v.ownBlock\/∀k,v'.ownBlock=some k->w.heap.size<=k))/\A3 (fun k=>k=bb\/v.ownBlock=some k) w w'
theorem EG{w w':World}{base bb:Nat}{v:Value}{cs:List RC}{r:(Nat×Nat)×List RC}{x y:Nat}(z:Aw w bb [v] 59)(j:AY w base v (cs.map RC.d))(h:r=((x,y),cs))(q:Below w.heap.size w w'):GL w base bb v r (.returned (.tuple #[.int .i64 (x:Nat),.int .i64 (y:Nat)])) w':=by subst h;exact⟨rfl,⟨v,z.below q,j.below q,.inl rfl⟩,A3.ab q⟩
theorem aC(ts:List RT)(z:∀t∈ts,t.var=Bo t.s):EV ts=none↔fv (ts.map RT.s)= -1:=by
 have h:=jJ ts z 0;constructor
 ·intro q;rw[q]at h;exact h
 ·intro j
  cases q:EV ts with
  |none=>rfl
  |some p=>rw[q]at h;obtain⟨i,_,h2,_⟩:=h;unfold fv at j;rw[j]at h2;omega
end
section
def LA(l:B8):Prop:=∀c∈l,AI (c.toNat:Int)=true
theorem PS(q:Int->Bool)(n:Nat)(m:B8):∀c∈m.take (Bt q n m),q (c.toNat:Int)=true:=by
 induction n generalizing m with
 |zero=>intro c hc;simp[Bt]at hc
 |succ n j=>
  cases m with
  |nil=>intro c hc;simp at hc
  |cons x m=>
   intro c hc;unfold Bt at hc
   split at hc
   ·rename_i hx;rw[List.take_succ_cons,Br]at hc;rcases hc with rfl|hc
    ·exact hx
    ·exact j m c hc
   ·simp at hc
theorem QY(c:Int)(h:Ax c=true):AI c=true:=by unfold AI;rw[h];simp
theorem Ml(n:Nat)(m:B8):LA (m.take (Bt Ax n m)):=fun c hc=>QY _ (PS Ax n m c hc)
theorem Vb(n:Nat)(m:B8):LA (m.take (Bt AI n m)):=fun c hc=>PS AI n m c hc
theorem ZI(l:B8):LA (BL l):=by
 unfold BL Hc
 split
 ·exact Ml _ _
 ·split
  ·exact Vb _ _
  ·intro c hc;simp at hc
theorem cQ(s:ByteArray)(name:B8)(np:Nat)(hn:LA name):∀(f:Nat) (ts:List B8) (ps:List Nat) (l:B8),(∀t∈ts,LA t)->LA (CM s name np f ts ps l).name/\∀t∈(CM s name np f ts ps l).ts,LA t:=by
 intro f
 induction f with
 |zero=>intro ts ps l h;exact⟨hn,h⟩
 |succ f j=>
  intro ts ps l h
  have q:∀t∈ts++[BL l],LA t:=by
   intro t ht;simp at ht;rcases ht with ht|rfl
   ·exact h t ht
   ·exact ZI l
  unfold CM
  split
  ·exact⟨by intro c hc;simp at hc,by simp⟩
  ·split
   ·exact⟨hn,q⟩
   ·split
    ·exact⟨hn,q⟩
    ·exact j _ _ _ q
theorem QB(s:ByteArray)(l:B8):LA (Bf s l).name/\∀t∈(Bf s l).ts,LA t:=by
 unfold Bf;dsimp only
 split
 ·exact⟨by intro c hc;simp at hc,by simp⟩
 ·split
  ·exact⟨Ml _ _,by simp⟩
  ·exact cQ s _ _ (Ml _ _) 3 [] [] _ (by simp)
def Ou(d:Bd):Prop:=LA d.name/\∀t∈d.ts,LA t
theorem RN(s:ByteArray)(l:B8)(hok:(BH s l).ok=true):Ou (BH s l).d:=by
 have q:=QB s l;unfold BH at hok⊢
 split at hok
 ·simp at hok
 ·next h1=>
  split at hok
  ·next h2=>rw[Af h1,Ai h2];exact q
  ·next h2=>
   split at hok
   ·simp at hok
   ·next h3=>rw[Af h1,Af h2,Af h3];exact q
theorem U5(s:ByteArray):∀(f:Nat) (ds:List Bd) (l:B8),(∀d∈ds,Ou d)->∀d∈(EP s f ds l).cls,Ou d:=by
 intro f
 induction f with
 |zero=>intro ds l h;unfold EP;split<;>exact h
 |succ f q=>
  intro ds l h;unfold EP
  split
  ·exact h
  ·split
   ·exact h
   ·next hok=>
    refine q _ _ ?_;intro d hd;simp at hd;rcases hd with hd|rfl
    ·exact h d hd
    ·exact RN s _ (by simpa using hok)
theorem Px(s:ByteArray):∀d∈(Bs s).cls,Ou d:=U5 s 40 [] _ (by simp)
theorem J0(l:B8)(h:LA l)(c:UInt8)(hc:AI (c.toNat:Int)=false):c∉l:=fun q=>by rw[h c q]at hc;simp at hc
theorem MU(c:UInt8)(n n' X X':B8)(h:n++c::X=n'++c::X')(h1:c∉n)(h2:c∉n'):n=n'/\X=X':=by
 induction n generalizing n' with
 |nil=>
  cases n' with
  |nil=>simpa using h
  |cons y n'=>simp at h;exact absurd h.1 (fun e=>h2 (by simp[e]))
 |cons y n j=>
  cases n' with
  |nil=>simp at h;exact absurd h.1.symm (fun e=>h1 (by simp[e]))
  |cons z n'=>simp only[List.cons_append,Pk]at h;obtain⟨rfl,h⟩:=h;obtain⟨h3,q⟩:=j n' h (fun e=>h1 (by simp[e])) (fun e=>h2 (by simp[e]));exact⟨by rw[h3],q⟩
theorem Km(t:B8)(r:List B8):Lib.joinTail [44] (t::r)=44::(t++Lib.joinTail [44] r):=by simp[Lib.joinTail]
theorem Z7(r:List B8):∀(t t':B8) (r':List B8),LA t->LA t'->(∀x∈r,LA x)->(∀x∈r',LA x)->t++Lib.joinTail [44] r=t'++Lib.joinTail [44] r'->t=t'/\r=r':=by
 have z:Lib.joinTail [44] ([]:List B8)=[]:=rfl
 induction r with
 |nil=>
  intro t t' r' h1 h2 _ q h
  cases r' with
  |nil=>rw[z,BC,BC]at h;exact⟨h,rfl⟩
  |cons x r'=>rw[z,BC,Km]at h;exact absurd (show(44:UInt8)∈t by rw[h];simp) (J0 t h1 44 (by decide))
 |cons x r b=>
  intro t t' r' h1 h2 h3 q h
  cases r' with
  |nil=>rw[z,BC,Km]at h;exact absurd (show(44:UInt8)∈t' by rw[<-h];simp) (J0 t' h2 44 (by decide))
  |cons x' r'=>rw[Km,Km]at h;obtain⟨k,v⟩:=MU 44 t t' _ _ h (J0 t h1 44 (by decide)) (J0 t' h2 44 (by decide));obtain⟨u,g⟩:=b x x' r' (h3 x (by simp)) (q x' (by simp)) (fun y j=>h3 y (by simp[j])) (fun y j=>q y (by simp[j])) v;exact⟨k,by rw[u,g]⟩
theorem Xn(n n':B8)(ts ts':List B8)(h1:LA n)(h2:LA n')(h3:∀t∈ts,LA t)(j:∀t∈ts',LA t)(h:DI n ts=DI n' ts'):n=n'/\ts=ts':=by
 unfold DI at h
 cases ts with
 |nil=>
  cases ts' with
  |nil=>simp at h;exact⟨h,rfl⟩
  |cons t' r'=>simp at h;exact absurd (show(40:UInt8)∈n by rw[h];simp) (J0 n h1 40 (by decide))
 |cons t r=>
  cases ts' with
  |nil=>simp at h;exact absurd (show(40:UInt8)∈n' by rw[<-h];simp) (J0 n' h2 40 (by decide))
  |cons t' r'=>
   simp only[List.length_cons,Nat.succ_ne_zero,AM,Lib.join_cons,Bm,List.singleton_append]at h;obtain⟨z,k⟩:=MU 40 n n' _ _ h (J0 n h1 40 (by decide)) (J0 n' h2 40 (by decide));have v:t++Lib.joinTail [44] r=t'++Lib.joinTail [44] r':=by have:=nG (show(t++Lib.joinTail [44] r)++[41]=(t'++Lib.joinTail [44] r')++[41] by simpa using k);exact this
   obtain⟨u,g⟩:=Z7 r t t' r' (h3 t (by simp)) (j t' (by simp)) (fun y q=>h3 y (by simp[q])) (fun y q=>j y (by simp[q])) v;exact⟨z,by rw[u,g]⟩
structure RC.Good(c:RC):Prop where
 small:c.Small
 fit:c.fit
 neg:c.head.neg=false
 words:Ou c.d
theorem Ms(c:RC)(hc:c.Good)(a:RA)(u:a.neg=false)(z:LA a.name/\∀t∈a.ts,LA t.s)(g:∀t∈a.ts,t.var=Bo t.s)(b:EV a.ts=none):
 (c.body.isEmpty&&decide (c.shown=a.shown++[46]))=EU a.name (a.ts.map RT.s) c.d:=by
 have j:=(aC a.ts g).1 b;unfold EU CR JV RC.d;simp only[AK]
 cases hb:c.body with
 |nil=>
  have hs:c.shown=DI c.head.name (c.head.ts.map RT.s)++[46]:=by unfold RC.shown;rw[hb,I8,BC,F1 _ hc.neg]
  rw[hs,F1 a u];simp only[List.isEmpty_nil,BD,List.length_nil,JT];by_cases q:c.head.name=a.name/\c.head.ts.map RT.s=a.ts.map RT.s
  ·obtain⟨k,v⟩:=q;rw[k,v,j];simp
  ·have h1:¬(DI c.head.name (c.head.ts.map RT.s)++[46]=DI a.name (a.ts.map RT.s)++[46]):=by intro h;exact q (Xn _ _ _ _ hc.words.1 z.1 hc.words.2 (by intro t ht;simp at ht;obtain⟨x,hx,rfl⟩:=ht;exact z.2 x hx) (nG h))
   rw[A5 h1]
   symm
   rw[PM]
   right
   rw[PM];by_cases hn:c.head.name=a.name
   ·right;simpa using fun h=>q ⟨hn,h⟩
   ·left;simpa using hn
 |cons x y=>simp
end
section
attribute [local go_sem] AE As
open Go.RowKit Go.WideMaps Go.Maps
theorem RR(w:World)(base bb:Nat)(v:Value)(ds:List Bd)(A:Aw w bb [v] 59)(E:AY w base v ds)(q5:base<=w.heap.size)(s:ByteArray)(x z y g:ByteArray)(n:Int)(hl:ds.length<40)(d:Bd)(hd:d.lits=[])(O:Bp d.name d.ts=[.string x,.int .i64 n,.string z,.string y,.string g])(U:QJ base bb ds s false x z y g n):
 Calls prog 16 #[.pointer (some ⟨bb,0,none⟩),.string s] w fun e w'=>e=.returned (.tuple #[.int .i64 0,.int .i64 0])/\(∃v',Aw w' bb [v'] 59/\AY w' base v' (ds++[d])/\(v'.ownBlock=v.ownBlock\/∀k,v'.ownBlock=some k->w.heap.size<=k))/\A3 (fun k=>k=bb\/v.ownBlock=some k) w w':=by
 have j9:bb<w.heap.size:=A.lt;obtain⟨ao,cap,rfl⟩:=E.form;have N:Dm w base bb ds:=⟨_,A,E⟩;have HR:=Ao (U.reads w N);have HF:=Ao U.de;have HH:=Ao U.has;have R:=Ao N;clear U N;go_enter func16,ntmps16;go_wp2_with fail;refine(HR.out).mono ?_;rintro e w1 ⟨rfl,b⟩;have P:=Ao ((R.out.below b).below (Ac w1 (.cells #[.string x,.int .i64 n,.string z,.string y,.string g] 80)));have m:=Ao (b.trans ((Ac w1 (.cells #[.string x,.int .i64 n,.string z,.string y,.string g] 80)).mono b.size));have z0:=m.out.size;have h1:=(A.below b).below (Ac w1 (.cells #[.string x,.int .i64 n,.string z,.string y,.string g] 80));have h2:=(E.below b).below (Ac w1 (.cells #[.string x,.int .i64 n,.string z,.string y,.string g] 80));have Y:=(R.out.below b);obtain⟨v',k1,k2⟩:=Y;have Y:=k1.lt;have j8:bb≠w1.heap.size:=by omega
 have c0:=h1.cell 0;have G:=Ao h1;have B:=Ao (h2.below (Ag _ _).drew);clear h1 h2 R HR P k1 k2;have l:(w1.alloc (.cells #[.string x,.int .i64 n,.string z,.string y,.string g] 80)).heap.size=w1.heap.size+1:=by simp
 obtain⟨q0,q1,q2,q3,q4⟩:=(Aw.new w1 [.string x,.int .i64 n,.string z,.string y,.string g] 80).c5;have HQ:=Ao (Aw.new w1 [.string x,.int .i64 n,.string z,.string y,.string g] 80);obtain⟨i1,I,q9,j0,j1⟩:=Bc Ol;go_wp2_with fail;generalize hw:(w1.alloc (.cells #[.string x,.int .i64 n,.string z,.string y,.string g] 80))=u at*;generalize w1.heap.size=B1 at*;clear hw b
 go_region_with (first|(go_at_call 39;refine(HF.out _).mono ?_;rintro e w2 ⟨rfl,Q,t⟩;have C:=(G.out.drew.below t).cell 0)|(go_at_call 38;refine(HH.out w2 ao cap (B1+1) (B.out.below t) (by rw[<-l];exact Q)).mono ?_;rintro e w3 ⟨rfl,J⟩))
 all_goals
  have q:=t.trans (J.mono t.size);have hB:=m.out.drew.trans (q.mono (by simp;omega));have hC:=G.out.drew.below q;have j3:=hC.cell 0;have fC:=hC.frozen;have hP:=B.out.below q;have hq:=(HQ.out.drew.below q);obtain⟨p0,p1,p2,p3,p4⟩:=hq.c5;have j7:bb<w3.heap.size:=hC.lt;have j5:B1<w3.heap.size:=hq.lt;obtain⟨rows,W,q7,hr⟩:=hP;clear G B HQ HF HH m q0 q1 q2 q3 q4 c0 C Q t J q hq;go_wp2_with fail;have c:∀r,((w3.alloc r).drew).ownsRow base 86 6 (.slice ao ds.length cap) ds.length rows.flatten:=fun r=>W.alloc r;have o:∀j u,[Value.string x,.int .i64 n,.string z,.string y,.string g,.slice none 0 0][j]? =some u->((w3.alloc (.cells #[Value.string x,.int .i64 n,.string z,.string y,.string g,.slice none 0 0] 86)).drew).cell? ((⟨w3.heap.size,0,none⟩:Addr).add j)=some u:=fun j u h=>AS w3 [Value.string x,.int .i64 n,.string z,.string y,.string g,.slice none 0 0] 86 j u h
  have V:∀u∈[Value.string x,.int .i64 n,.string z,.string y,.string g,.slice none 0 0],u.oneCell'=true:=by
   intro u hu;simp at hu;rcases hu with rfl|rfl|rfl|rfl|rfl|rfl<;>rfl
  have H:ds.length+1<=maxLen:=by unfold maxLen;omega
  have L:(ds.length+1)*96<=140737488355328:=by omega
  have M:∀r,base<=((w3.alloc r).drew).heap.size:=by intro r;simp;omega
  have K:=Av W hC (by decide);have j6:=A9 W
  go_region_law (refine CP _ rfl (.tmp 37) (.tmp 40) 56 rfl base 86 i1 _ 6 96 underlying56 I q9 j0 j1 rfl (by decide) (.slice ao ds.length cap) ds.length rows.flatten (by simp[Act.eval]) (c _) ⟨w3.heap.size,0,none⟩ 1 1 [Value.string x,.int .i64 n,.string z,.string y,.string g,.slice none 0 0] (by simp[Act.eval]) (by decide) rfl o V H L (M _) ?_;intro g2 j2 w4 q6 f q8;have p:=(hC.alloc _).drew.grown f K;have d0:=p.cell 0;have j4:=p.frozen;simp at d0)
  all_goals
   go_wp2_with fail;go_ret2;have X:Fl w3 base d [Value.string x,.int .i64 n,.string z,.string y,.string g,.slice none 0 0]:=⟨.slice none 0 0,by rw[O];rfl,by rw[hd];exact Ak _ _ _ _⟩;have h2:=fun r=>(Ac w3 r).drew;have a:=AY.more (w:=(w3.alloc _).drew) (w':=w4) (base:=base) (ds:=ds) (fun i d cs h1 h3=>(hr i d cs h1 h3).below (h2 _)) q7 (c _) (X.below (h2 _)) q6 f;refine⟨rfl,⟨_,p.setCell 0 _,a.set p (by decide) (by decide) 0 _,?_⟩,?_⟩
   ·rcases q8 with h|h
    ·exact .inl h
    ·refine .inr (fun k Z=>?_);simp[Value.ownBlock]at Z;simp at h;have:=hB.size;omega
   ·refine A3.setCell ?_ (.inl (.inl rfl)) _;have h4:=fun r=>A3.drew (A3.alloc (A3.ab (S:=fun k=>k=bb\/(Value.slice ao ds.length cap).ownBlock=some k) hB) r);exact(h4 _).trans (A3.cr (S:=fun k=>k=bb\/(Value.slice ao ds.length cap).ownBlock=some k) f (fun k Z=>.inr Z)) (fun k _ Z=>Z)
theorem Uc(w:World)(base bb:Nat)(ds:List Bd)(i:Dm w base bb ds)(s:ByteArray)(x g b d:ByteArray)(n:Int)(hl:40<=ds.length)(m:QJ base bb ds s false x g b d n):
 Calls prog 16 #[.pointer (some ⟨bb,0,none⟩),.string s] w fun e w'=>e=.returned (.tuple #[.int .i64 1,.int .i64 0])/\Below w.heap.size w w':=by
 have q7:(40:Int)<=(ds.length:Int):=by omega
 have Z:=Ao (m.reads w i);have Q:=Ao m.de;have J:=Ao m.has;have a:=Ao i;clear m i;go_enter func16,ntmps16;go_wp2_with fail;refine(Z.out).mono ?_;rintro e w1 ⟨rfl,q⟩;have t:=Ao ((a.out.below q).below (Ac w1 (.cells #[.string x,.int .i64 n,.string g,.string b,.string d] 80)));have y:=Ao (q.trans ((Ac w1 (.cells #[.string x,.int .i64 n,.string g,.string b,.string d] 80)).mono q.size));have q9:=y.out.size;obtain⟨v,h1,h2⟩:=t.out;obtain⟨ao,cap,rfl⟩:=h2.form;have c:=(a.out.below q);obtain⟨v',Y,R⟩:=c;have c:=Y.lt;have q8:bb≠w1.heap.size:=by omega
 have U:=h1.cell 0;have f:=Ao h1;have l:=Ao (h2.below (Ag _ _).drew);clear h1 h2 a Z t Y R;have k:(w1.alloc (.cells #[.string x,.int .i64 n,.string g,.string b,.string d] 80)).heap.size=w1.heap.size+1:=by simp
 obtain⟨P,C,M,q3,N⟩:=(Aw.new w1 [.string x,.int .i64 n,.string g,.string b,.string d] 80).c5;have V:=Ao (Aw.new w1 [.string x,.int .i64 n,.string g,.string b,.string d] 80);go_wp2_with fail;generalize B:(w1.alloc (.cells #[.string x,.int .i64 n,.string g,.string b,.string d] 80))=u at*;generalize w1.heap.size=K at*;clear B q
 go_region_with (first|(go_at_call 39;refine(Q.out _).mono ?_;rintro e w2 ⟨rfl,r,j⟩;have o:=(f.out.drew.below j).cell 0)|(go_at_call 38;refine(J.out w2 ao cap (K+1) (l.out.below j) (by rw[<-k];exact r)).mono ?_;rintro e w3 ⟨rfl,p⟩))
 all_goals
  have z:=j.trans (p.mono j.size);have G:=y.out.drew.trans (z.mono (by simp;omega));have hC:=f.out.drew.below z;have q5:=hC.cell 0;have q6:bb<w3.heap.size:=hC.lt;clear f l V Q J y P C M q3 N U o r j p z;go_wp2_with fail;go_ret2;exact⟨rfl,G⟩
theorem OS(w:World)(base bb:Nat)(cs:List RC)(u:Dm w base bb (cs.map RC.d))(hW:∀d∈cs.map RC.d,d.WF)(hn:cs.length<=40)(s:ByteArray)(hs:s.size<=maxLen)(x y:Nat)(j:E0 cs s=(x,y))(hx:x≠0):
 Calls prog 16 #[.pointer (some ⟨bb,0,none⟩),.string s] w fun e w'=>e=.returned (.tuple #[.int .i64 (x:Nat),.int .i64 (y:Nat)])/\Below w.heap.size w w':=by
 have v:=Ao (Ns w base bb cs u hW hn s hs);have k:=Ao j;have q0:(((x:Nat):Int) != 0)=true:=by rw[GG];omega
 clear j;go_enter func16,ntmps16;go_wp2_with fail;refine(v.out).mono ?_;rintro e w1 ⟨z,q⟩;rw[k.out,Af hx]at z;subst z;unfold zA;go_wp2_with fail;go_ret2;exact⟨rfl,q.alloc q.size _⟩
theorem kP(q:B8)(ats:List B8)(ds:List Bd)(k:Nat):0<=JK q ats k ds↔ ∃d∈ds,EU q ats d=true:=by
 induction ds generalizing k with
 |nil=>simp[JK]
 |cons d ds j=>
  rw[JK];by_cases h:EU q ats d=true
  ·rw[Ai h];simp[h]
  ·rw[Af h,j (k+1)];simp[h]
theorem Qq(cs:List RC)(j:∀c∈cs,c.Good)(a:RA)(z:a.neg=false)(v:LA a.name/\∀t∈a.ts,LA t.s)(y:∀t∈a.ts,t.var=Bo t.s)(k:EV a.ts=none):0<=UA a.name (a.ts.map RT.s) (cs.map RC.d)↔0<C0 cs a.shown:=by
 unfold UA C0;rw[kP,List.countP_pos_iff];constructor
 ·rintro⟨d,hd,q⟩;obtain⟨c,hc,rfl⟩:=List.mem_map.1 hd;exact⟨c,hc,by rw[Ms c (j c hc) a z v y k];exact q⟩
 ·rintro⟨c,hc,q⟩;exact⟨c.d,Cl hc,by rw[<-Ms c (j c hc) a z v y k];exact q⟩
theorem GO{s:ByteArray}{a:RA}(h:B0 s=some a):a.neg=false/\(LA a.name/\∀t∈a.ts,LA t.s)/\∀t∈a.ts,t.var=Bo t.s:=by have hq:=FO s;rw[h]at hq;obtain⟨_,⟨r,z⟩,_,hn,j⟩:=hq;have q:=QB s s.data.toList;rw[z]at q;exact⟨hn,⟨q.1,fun t ht=>q.2 t.s (Cl ht)⟩,j⟩
theorem XF(w:World)(base bb:Nat)(v:Value)(cs:List RC)(k:base<=w.heap.size)(g:Aw w bb [v] 59)(u:AY w base v (cs.map RC.d))(Q:∀c∈cs,c.Good)(hW:∀d∈cs.map RC.d,d.WF)(hn:cs.length<=40)(s:ByteArray)(hs:s.size<=maxLen):
 Calls prog 16 #[.pointer (some ⟨bb,0,none⟩),.string s] w fun e w'=>GL w base bb v (CS cs s) e w':=by
 have f:Dm w base bb (cs.map RC.d):=⟨v,g,u⟩;have o:(cs.map RC.d).length<=40:=by simpa using hn
 by_cases q:(Cn cs s).1≠0
 ·have t:E0 cs s=((Cn cs s).1,(Cn cs s).2):=by unfold E0;rw[Ai q]
  refine(OS w base bb cs f hW hn s hs _ _ t q).mono ?_;rintro e w' ⟨rfl,z⟩;exact EG g u (M7 q) z
 ·obtain⟨a,hq,hok⟩:=OT (by simpa using q);have j:=K9 hok hq;obtain⟨x,i,m⟩:=GO hq
  cases hg:EV a.ts with
  |some p=>
   have t:E0 cs s=(6,p):=by unfold E0;rw[hok,Af (by simp),hq];simp only[];rw[hg]
   refine(OS w base bb cs f hW hn s hs _ _ t (by decide)).mono ?_;rintro e w' ⟨rfl,z⟩;exact EG g u (by rw[j,hg]) z
  |none=>
   have t:E0 cs s=(0,0):=by unfold E0;rw[hok,Af (by simp),hq];simp only[];rw[hg]
   have hR:dE base bb (cs.map RC.d) s a.name (a.ts.map RT.s):=by intro W h;refine(Ns W base bb cs h hW hn s hs).mono ?_;rintro e w' ⟨l,z⟩;rw[t,Ai rfl]at l;obtain⟨a',h1,h2⟩:=l;rw[hq]at h1;obtain rfl:=Be h1;exact⟨h2,z⟩
   have b:=jO base bb (cs.map RC.d) hW o s a.name (a.ts.map RT.s) hR;have n:=Qq cs Q a x i m hg;by_cases r:0<C0 cs a.shown
   ·rw[Bq (n.2 r)]at b;refine(RQ w base bb (cs.map RC.d) f s _ _ _ _ _ b).mono ?_;rintro e w' ⟨rfl,z⟩;exact EG g u (by rw[j,hg];simp only[];rw[Ai r]) z
   ·rw[A5 (fun h=>r (n.1 h))]at b;by_cases y:40<=cs.length
    ·refine(Uc w base bb (cs.map RC.d) f s _ _ _ _ _ (by simpa using y) b).mono ?_;rintro e w' ⟨rfl,z⟩;exact EG g u (by rw[j,hg];simp only[];rw[Af r,Ai y]) z
    ·refine(RR w base bb v (cs.map RC.d) g u k s _ _ _ _ _ (by simp;omega) (RC.d ⟨a,[]⟩) rfl rfl b).mono ?_;rintro e w' ⟨rfl,⟨v',h1,h2,h3⟩,J⟩;unfold GL;rw[j,hg];simp only[];rw[Af r,Af y];exact⟨rfl,⟨v',h1,by simpa using h2,h3⟩,J⟩
theorem mF(r:List Value)(h:r.length=6):∃a0 q j z y k,r=[a0,q,j,z,y,k]:=by
 match r,h with
 |[a0,q,j,z,y,k],_=>exact⟨a0,q,j,z,y,k,rfl⟩
theorem Yc(R:List (List Value))(q:∀r∈R,r.length=6)(i:Nat)(j:i<R.length)(x0 z y k x4 x5:Value):
 ((((((R.flatten.set (i*6) x0).set (i*6+1) z).set (i*6+2) y).set (i*6+3) k).set (i*6+4) x4).set (i*6+5) x5)=(R.set i [x0,z,y,k,x4,x5]).flatten:=by
 induction R generalizing i with
 |nil=>simp at j
 |cons r R u=>
  obtain⟨a0,a1,a2,a3,a4,a5,rfl⟩:=mF r (q r (by simp))
  cases i with
  |zero=>simp
  |succ i=>have h:=u (fun r v=>q r (by simp[v])) i (by simpa using j);rw[show(i+1)*6=i*6+6 by omega,List.set_cons_succ,List.flatten_cons,List.flatten_cons,<-h];rfl
theorem eU{w:World}{base:Nat}{e:TypeId}{g n cap:Nat}{R:List (List Value)}(h:w.ownsRow base e 6 (.slice (some ⟨g,0,none⟩) n cap) n R.flatten)(v:∀r∈R,r.length=6)(hn:R.length=n)(i:Nat)(hi:i<n)(x0 j z y x4 x5:Value):
 ((((((w.setCell ⟨g,i*6,none⟩ x0).setCell ⟨g,i*6+1,none⟩ j).setCell ⟨g,i*6+2,none⟩ z).setCell ⟨g,i*6+3,none⟩ y).setCell ⟨g,i*6+4,none⟩ x4).setCell ⟨g,i*6+5,none⟩ x5).ownsRow base e 6 (.slice (some ⟨g,0,none⟩) n cap) n (R.set i [x0,j,z,y,x4,x5]).flatten:=by
 rcases h.2 with⟨h1,_⟩|⟨g',q0,cur,k,b,d,hc,t,hs,hx⟩
 ·simp at h1
 ·simp only[Bx,Al,BM,lT,Dx]at k;obtain⟨rfl,rfl⟩:=k;have u:Aw w g cur.toList e:=by unfold Aw;simpa using d
  have q:=(((((u.setCell (i*6) x0).setCell (i*6+1) j).setCell (i*6+2) z).setCell (i*6+3) y).setCell (i*6+4) x4).setCell (i*6+5) x5;rw[<-Yc R v i (by omega)];refine⟨by simp only[Pj];exact h.1,.inr ⟨g,cap,_,rfl,b,q,hc,t,by simp[hs],?_⟩⟩;simp only[List.take_set];rw[hx]
theorem Y6(z:Array Value)(m:Nat)(h:∀v∈z.toList,v.oneCell'=true)(y:0<z.size):∀v∈(Builtin.zeroCells z m).toList,v.oneCell'=true:=by intro v j;simp only[Builtin.zeroCells,Array.toList_map,C4]at j;obtain⟨i,_,rfl⟩:=j;have q:i%z.size<z.size:=Nat.mod_lt _ y;rw[getElem!_pos z _ q];exact h _ (by simp)
def zv(m:Nat):List Value:=(Builtin.zeroCells (Value.agg #[.string ⟨#[]⟩,.int .i64 0,.string ⟨#[]⟩,.string ⟨#[]⟩,.string ⟨#[]⟩,.slice none 0 0]).cells m).toList
theorem VK(w:World)(ty:TypeId)(g o m c:Nat)(cs:List Value)(t:TypeId)(h:Aw w g cs t)(hm:0<m)(ho:o+m*6<=cs.length):
 (Builtin.clear_ #[56] ty #[.slice (some ⟨g,o,none⟩) m c]).run prog w=.ok (.tuple #[]) (w.setCells g o (zv m)):=by
 have z:(zv m).length=m*6:=by unfold zv;rw[Array.length_toList,size_zeroCells];rfl
 have q:=run_storeCells_cells (P:=prog) g o (zv m) 0 w
  (by intro j y;rw[z]at y;rw[h.cell];simp;omega)
  (by intro j y;exact h.frozen _)
  (Y6 _ m (by intro v u;simp[Value.cells]at u;rcases u with rfl|rfl|rfl|rfl|rfl|rfl<;>rfl) (by decide))
 simp only[Nat.add_zero]at q;obtain⟨k,rfl⟩:∃k,m=k+1:=⟨m-1,by omega⟩;unfold zv at q⊢;simp[Builtin.clear_,run_underlying underlying56,q]
theorem Yb(R:List (List Value))(j:∀r∈R,r.length=6)(i:Nat)(z:i<=R.length):R.flatten.take (i*6)=(R.take i).flatten:=by
 induction R generalizing i with
 |nil=>simp
 |cons r R y=>
  cases i with
  |zero=>simp
  |succ i=>have q:=j r (by simp);have h:=y (fun r q=>j r (by simp[q])) i (by simpa using z);rw[List.flatten_cons,List.take_succ_cons,List.flatten_cons,<-h,dQ,C3 (by omega),q];congr 2;omega
def JR(q:B8)(ats:List B8)(ps:List (Bd×List Value)):List (Bd×List Value):=ps.filter fun p=> !EU q ats p.1
theorem SA(q:B8)(ats:List B8)(ds:List Bd)(rows:List (List Value))(h:rows.length=ds.length):(JR q ats (ds.zip rows)).map Prod.fst=ds.filter fun d=> !EU q ats d:=by
 induction ds generalizing rows with
 |nil=>simp[JR]
 |cons d ds z=>
  cases rows with
  |nil=>simp at h
  |cons r rows=>
   have j:=z rows (by simpa using h);unfold JR at j⊢;rw[List.zip_cons_cons,G2,G2];cases hm:EU q ats d
   ·simp[j]
   ·simp[j]
theorem Mf(q:B8)(ats:List B8)(ds:List Bd)(rows:List (List Value))(h:rows.length=ds.length)(j:Nat)(hj:j<ds.length):JR q ats ((ds.zip rows).take (j+1))=JR q ats ((ds.zip rows).take j)++(if EU q ats ds[j]=true then [] else [(ds[j],rows[j])]):=by
 have z:j<(ds.zip rows).length:=by simp;omega
 unfold JR;rw[Ad z,Ip,dT];congr 1;cases hm:EU q ats ds[j]<;>simp[hm]
theorem kQ(q:B8)(ats:List B8)(ds:List Bd)(rows:List (List Value))(h:rows.length=ds.length)(hx:0<=UA q ats ds):∃i,i<ds.length/\UA q ats ds=(i:Nat)/\(JR q ats ((ds.zip rows).take (i+1))).map Prod.snd=rows.take i:=by
 have y:∀(k:Nat),k<=ds.length->JK q ats k (ds.drop k)=UA q ats ds->(JR q ats ((ds.zip rows).take k)).map Prod.snd=rows.take k->∃i,i<ds.length/\UA q ats ds=(i:Nat)/\(JR q ats ((ds.zip rows).take (i+1))).map Prod.snd=rows.take i:=by
  intro k
  induction hd:ds.length-k generalizing k with
  |zero=>intro v h1 _;rw[AA (by omega)]at h1;rw[<-h1]at hx;simp[JK]at hx
  |succ n u=>
   intro v h1 h2;have j:k<ds.length:=by omega
   rw[Ot q ats ds k j]at h1;by_cases z:EU q ats ds[k]=true
   ·rw[Ai z]at h1;exact⟨k,j,h1.symm,by rw[Mf q ats ds rows h k j,Ai z,BC,h2]⟩
   ·rw[Af z]at h1;refine u (k+1) (by omega) (by omega) h1 ?_;rw[Mf q ats ds rows h k j,Af z,A8,h2,Ad (by omega)];rfl
 exact y 0 (by omega) rfl (by simp[JR])
theorem bR(w:World)(base:Nat)(g cap:Nat)(ds:List Bd)(hP:AY w base (.slice (some ⟨g,0,none⟩) ds.length cap) ds)(hW:∀d∈ds,d.WF)(hn:ds.length<=40)(B:Nat)(z:B8)(ats:List B8)(hA:Aw w B (Bp z ats) 80)(hx:0<=UA z ats ds):
 Calls prog 44 #[.slice (some ⟨g,0,none⟩) ds.length cap,.func (.func 71) #[] #[.pointer (some ⟨B,0,none⟩)]] w fun e w'=>∃m:Nat,e=.returned (.slice (some ⟨g,0,none⟩) m cap)/\AY w' base (.slice (some ⟨g,0,none⟩) m cap) (ds.filter fun d=> !EU z ats d)/\A3 (fun k=>k=g) w w':=by
 have hX:=Qp w base (some ⟨g,0,none⟩) cap ds hP hW hn B z ats hA;obtain⟨rows,ho,K,hr⟩:=hP;have H:∀r∈rows,r.length=6:=by intro r N;obtain⟨j,hj,rfl⟩:=B3 N;obtain⟨bv,hc,_⟩:=hr j ds[j] rows[j] (by simp) (by simp);rw[hc];rfl
 obtain⟨i0,z9,j0,V⟩:=kQ z ats ds rows K hx;rw[j0]at hX;have HX:=Ao hX;have A:=Ao V
 have Z:∃cs,Aw w g cs 86/\cs.length=cap*6/\ds.length<=cap/\cap<=maxLen:=by
  rcases ho.2 with⟨h1,_⟩|⟨g',O,cur,hv,hg,hh,hc,K,hs,hx⟩
  ·simp at h1
  ·simp only[Bx,Al,BM,lT,Dx]at hv;obtain⟨rfl,rfl⟩:=hv;exact⟨cur.toList,by unfold Aw;simpa using hh,by simpa using hs,by simpa using hc,K⟩
 obtain⟨z7,u,_,z3,j9⟩:=Z;have z0:B≠g:=by rintro rfl;unfold Aw at hA u;rw[hA]at u;simp at u
 have z2:Df w (fun k=>k=g) 186:=Gq u (by decide);have z4:=u.lt;unfold maxLen at j9;have q9:¬((i0:Nat):Int)= -1:=by omega
 have z5:(((i0:Nat):Int)== -1)=false:=by rw[Az];exact q9
 clear hX hx j0 V;go_enter func44,ntmps44;go_wp2_with fail;refine(HX.out).mono ?_;rintro e w1 ⟨rfl,I⟩;go_wp2_with fail
 go_loopw [5,6] (fun iv jv wr=>∃(i j:Nat) (R:List (List Value)),iv=.int .i64 i/\jv=.int .i64 j/\i<j/\j<=ds.length/\R.length=ds.length/\(∀r∈R,r.length=6)/\Hid (R.drop j=rows.drop j)/\Hid (R.take i=(JR z ats ((ds.zip rows).take j)).map Prod.snd)/\wr.ownsRow base 86 6 (.slice (some ⟨g,0,none⟩) ds.length cap) ds.length R.flatten/\A3 (fun k=>k=g) w wr) (fun _ jv _=>ds.length-(intOf jv).toNat)
 case atStart=>exact⟨i0,i0+1,rows,rfl,by go_num,by omega,by omega,K,H,rfl,A.out.symm,Ah ho I,A3.ab I⟩
 case round=>
  obtain⟨i,j,R,rfl,rfl,y2,hj,f,b,Y,s,c,hO⟩:=hrel
  have Z:∃cs,Aw wr g cs 86/\cs.length=cap*6:=by
   rcases c.2 with⟨h1,_⟩|⟨g',O,cur,hv,hg,hh,hc,K,hs,hx⟩
   ·simp at h1
   ·simp only[Bx,Al,BM,lT,Dx]at hv;obtain⟨rfl,rfl⟩:=hv;exact⟨cur.toList,by unfold Aw;simpa using hh,by simpa using hs⟩
  obtain⟨cs,C,z8⟩:=Z;have x:=C.lt;by_cases Q:j<ds.length
  ·obtain⟨g',o,-,v⟩:=E8 c b f j Q;simp only[Al,BM,Dx]at o;subst o;obtain⟨g',o,-,y⟩:=E8 c b f i (by omega);simp only[Al,BM,Dx]at o;subst o;have j8:R.getD j []=rows[j]:=by have h1:=Bl (fun l=>l[0]?) Y.out;simp only[Ll,Nat.add_zero]at h1;rw[Ap,h1,Ar (by omega)];rfl
   obtain⟨b0,b1,b2,b3,b4,b5,j7⟩:=mF (R.getD i []) (b _ (by rw[Ap,Ar (by omega)];simp));obtain⟨bv,j4,z1⟩:=hr j ds[j] rows[j] (by simp) (by simp);obtain⟨bo,bcap,rfl⟩:=Au z1;have j5:=hW ds[j] (Aj Q);have E:=Ao (Mf z ats ds rows K j Q);rw[j8,j4]at v;rw[j7]at y;have j6:=Ao j4;generalize ds[j]=d at*;have h3:=(j5.words (d.name,d.ts) (by simp[Bd.atoms])).2.1;have e0:wr.cell? ⟨g,j*6,none⟩=some (.string (bs d.name)):=v 0 (by decide);have e1:wr.cell? ⟨g,j*6+1,none⟩=some (.int .i64 (d.ts.length:Nat)):=v 1 (by decide);have e2:wr.cell? ⟨g,j*6+2,none⟩=some (.string (bs (d.ts.getD 0 []))):=v 2 (by decide);have e3:wr.cell? ⟨g,j*6+3,none⟩=some (.string (bs (d.ts.getD 1 []))):=v 3 (by decide);have e4:wr.cell? ⟨g,j*6+4,none⟩=some (.string (bs (d.ts.getD 2 []))):=v 4 (by decide);have e5:wr.cell? ⟨g,j*6+5,none⟩=some (.slice bo d.lits.length bcap):=v 5 (by decide);have f0:wr.cell? ⟨g,i*6,none⟩=some b0:=y 0 (by decide);have f1:wr.cell? ⟨g,i*6+1,none⟩=some b1:=y 1 (by decide);have f2:wr.cell? ⟨g,i*6+2,none⟩=some b2:=y 2 (by decide);have f3:wr.cell? ⟨g,i*6+3,none⟩=some b3:=y 3 (by decide);have f4:wr.cell? ⟨g,i*6+4,none⟩=some b4:=y 4 (by decide);have f5:wr.cell? ⟨g,i*6+5,none⟩=some b5:=y 5 (by decide);have HC:=Ao (fun(W:World) (hb:Aw W B (Bp z ats) 80)=>MY W d.name d.ts bo d.lits.length bcap h3 j5.lits B z ats hb);have HA:=Ao (hA.only hO z0);have n:g<(wr.alloc (.cells #[.string (bs d.name),.int .i64 (d.ts.length:Nat),.string (bs (d.ts.getD 0 [])),.string (bs (d.ts.getD 1 [])),.string (bs (d.ts.getD 2 [])),.slice bo d.lits.length bcap] 86)).heap.size:=by simp;omega
   clear v y;cases hm:EU z ats d
   ·have U:=Ao (show JR z ats ((ds.zip rows).take (j+1))=JR z ats ((ds.zip rows).take j)++[(d,rows[j])] by rw[E.out,hm];rfl);go_wp2_with (go_at_call 71;refine(HC.out _ (by exact(HA.out).alloc _)).mono ?_;rintro e w2 ⟨he,q⟩;rw[show(CR d.lits.length d.ts&&JV d.name z d.ts ats)=false from hm]at he;subst he;obtain⟨q0,q1,q2,q3,q4,q5⟩:=((Aw.new wr [.string (bs d.name),.int .i64 (d.ts.length:Nat),.string (bs (d.ts.getD 0 [])),.string (bs (d.ts.getD 1 [])),.string (bs (d.ts.getD 2 [])),.slice bo d.lits.length bcap] 86).below q).c6;have fg:=((C.alloc (.cells #[.string (bs d.name),.int .i64 (d.ts.length:Nat),.string (bs (d.ts.getD 0 [])),.string (bs (d.ts.getD 1 [])),.string (bs (d.ts.getD 2 [])),.slice bo d.lits.length bcap] 86)).below q).frozen;have y4:=((Aw.new wr [.string (bs d.name),.int .i64 (d.ts.length:Nat),.string (bs (d.ts.getD 0 [])),.string (bs (d.ts.getD 1 [])),.string (bs (d.ts.getD 2 [])),.slice bo d.lits.length bcap] 86).below q).lt;have g0:=(q.cell (p:=⟨g,i*6,none⟩) n).trans (((Ac wr (.cells #[.string (bs d.name),.int .i64 (d.ts.length:Nat),.string (bs (d.ts.getD 0 [])),.string (bs (d.ts.getD 1 [])),.string (bs (d.ts.getD 2 [])),.slice bo d.lits.length bcap] 86)).cell (p:=⟨g,i*6,none⟩) x).trans f0);have g1:=(q.cell (p:=⟨g,i*6+1,none⟩) n).trans (((Ac wr (.cells #[.string (bs d.name),.int .i64 (d.ts.length:Nat),.string (bs (d.ts.getD 0 [])),.string (bs (d.ts.getD 1 [])),.string (bs (d.ts.getD 2 [])),.slice bo d.lits.length bcap] 86)).cell (p:=⟨g,i*6+1,none⟩) x).trans f1);have g2:=(q.cell (p:=⟨g,i*6+2,none⟩) n).trans (((Ac wr (.cells #[.string (bs d.name),.int .i64 (d.ts.length:Nat),.string (bs (d.ts.getD 0 [])),.string (bs (d.ts.getD 1 [])),.string (bs (d.ts.getD 2 [])),.slice bo d.lits.length bcap] 86)).cell (p:=⟨g,i*6+2,none⟩) x).trans f2);have g3:=(q.cell (p:=⟨g,i*6+3,none⟩) n).trans (((Ac wr (.cells #[.string (bs d.name),.int .i64 (d.ts.length:Nat),.string (bs (d.ts.getD 0 [])),.string (bs (d.ts.getD 1 [])),.string (bs (d.ts.getD 2 [])),.slice bo d.lits.length bcap] 86)).cell (p:=⟨g,i*6+3,none⟩) x).trans f3);have g4:=(q.cell (p:=⟨g,i*6+4,none⟩) n).trans (((Ac wr (.cells #[.string (bs d.name),.int .i64 (d.ts.length:Nat),.string (bs (d.ts.getD 0 [])),.string (bs (d.ts.getD 1 [])),.string (bs (d.ts.getD 2 [])),.slice bo d.lits.length bcap] 86)).cell (p:=⟨g,i*6+4,none⟩) x).trans f4);have g5:=(q.cell (p:=⟨g,i*6+5,none⟩) n).trans (((Ac wr (.cells #[.string (bs d.name),.int .i64 (d.ts.length:Nat),.string (bs (d.ts.getD 0 [])),.string (bs (d.ts.getD 1 [])),.string (bs (d.ts.getD 2 [])),.slice bo d.lits.length bcap] 86)).cell (p:=⟨g,i*6+5,none⟩) x).trans f5));have J:=Ah (c.alloc (.cells #[.string (bs d.name),.int .i64 (d.ts.length:Nat),.string (bs (d.ts.getD 0 [])),.string (bs (d.ts.getD 1 [])),.string (bs (d.ts.getD 2 [])),.slice bo d.lits.length bcap] 86)) q;have P:A3 (fun k=>k=g) w w2:=(hO.alloc (.cells #[.string (bs d.name),.int .i64 (d.ts.length:Nat),.string (bs (d.ts.getD 0 [])),.string (bs (d.ts.getD 1 [])),.string (bs (d.ts.getD 2 [])),.slice bo d.lits.length bcap] 86)).trans (A3.ab (S:=fun k=>k=g) q) (fun k _ h=>h);have j3:=eU J b f i (by omega) (.string (bs d.name)) (.int .i64 (d.ts.length:Nat)) (.string (bs (d.ts.getD 0 []))) (.string (bs (d.ts.getD 1 []))) (.string (bs (d.ts.getD 2 []))) (.slice bo d.lits.length bcap);have X:rows[j]=[.string (bs d.name),.int .i64 (d.ts.length:Nat),.string (bs (d.ts.getD 0 [])),.string (bs (d.ts.getD 1 [])),.string (bs (d.ts.getD 2 [])),.slice bo d.lits.length bcap]:=j6.out;refine⟨⟨i+1,j+1,R.set i [.string (bs d.name),.int .i64 (d.ts.length:Nat),.string (bs (d.ts.getD 0 [])),.string (bs (d.ts.getD 1 [])),.string (bs (d.ts.getD 2 [])),.slice bo d.lits.length bcap],by go_num,by go_num,by omega,Q,by simp[f],?_,?_,?_,j3,?_⟩,by simp[intOf];omega⟩
    ·intro r N;rcases G3 N with h|rfl
     ·exact b r h
     ·rfl
    ·show _=_;rw[List.drop_set_of_lt (by omega)];have h1:=Bl (List.drop 1) Y.out;simpa[GH]using h1
    ·show _=_;rw[U.out,A8,<-s.out,<-List.take_set_of_le (l:=R) (a:=[.string (bs d.name),.int .i64 (d.ts.length:Nat),.string (bs (d.ts.getD 0 [])),.string (bs (d.ts.getD 1 [])),.string (bs (d.ts.getD 2 [])),.slice bo d.lits.length bcap]) (Ab i),Ad (by simp;omega)];simp[X]
    ·exact(((((P.setCell (p:=⟨g,i*6,none⟩) (.inl rfl) _).setCell (p:=⟨g,i*6+1,none⟩) (.inl rfl) _).setCell (p:=⟨g,i*6+2,none⟩) (.inl rfl) _).setCell (p:=⟨g,i*6+3,none⟩) (.inl rfl) _).setCell (p:=⟨g,i*6+4,none⟩) (.inl rfl) _).setCell (p:=⟨g,i*6+5,none⟩) (.inl rfl) _
   ·have U:=Ao (show JR z ats ((ds.zip rows).take (j+1))=JR z ats ((ds.zip rows).take j) by rw[E.out,hm];simp);go_wp2_with (go_at_call 71;refine(HC.out _ (by exact(HA.out).alloc _)).mono ?_;rintro e w2 ⟨he,q⟩;rw[show(CR d.lits.length d.ts&&JV d.name z d.ts ats)=true from hm]at he;subst he);have J:=Ah (c.alloc (.cells #[.string (bs d.name),.int .i64 (d.ts.length:Nat),.string (bs (d.ts.getD 0 [])),.string (bs (d.ts.getD 1 [])),.string (bs (d.ts.getD 2 [])),.slice bo d.lits.length bcap] 86)) q;have P:A3 (fun k=>k=g) w w2:=(hO.alloc (.cells #[.string (bs d.name),.int .i64 (d.ts.length:Nat),.string (bs (d.ts.getD 0 [])),.string (bs (d.ts.getD 1 [])),.string (bs (d.ts.getD 2 [])),.slice bo d.lits.length bcap] 86)).trans (A3.ab (S:=fun k=>k=g) q) (fun k _ h=>h);refine⟨⟨i,j+1,R,rfl,by go_num,by omega,Q,f,b,?_,?_,J,P⟩,by simp[intOf];omega⟩
    ·show _=_;have h1:=Bl (List.drop 1) Y.out;simpa[GH]using h1
    ·show _=_;rw[U.out,s.out]
  ·have M:j=ds.length:=by omega
   have hin:i<ds.length:=by omega
   have q6:=fun ty=>VK wr ty g (i*6) (ds.length-i) (cap-i) cs 86 C (by omega) (by omega);have hcut:=eV c i (by omega) (zv (ds.length-i));rw[Yb R b i (by omega),s.out,M,C3 (by simp;omega)]at hcut;have G:((JR z ats (ds.zip rows)).map Prod.snd).length=i:=by have h1:=Bl List.length s.out;rw[M,C3 (l:=ds.zip rows) (by simp;omega),Dz]at h1;omega
   have L:A3 (fun k=>k=g) w (wr.setCells g (i*6) (zv (ds.length-i))):=hO.trans (A3.cr (S:=fun k=>k=g) (XY g (zv (ds.length-i)) (i*6) wr).grownBy (fun k hk=>by simpa using hk.symm)) (fun k _ h=>h)
   have q7:AY (wr.setCells g (i*6) (zv (ds.length-i))) base (.slice (some ⟨g,0,none⟩) i cap) (ds.filter fun d=> !EU z ats d):=by
    have q8:(ds.filter fun d=> !EU z ats d).length=i:=by rw[<-SA z ats ds rows K,AK,<-G,AK]
    refine⟨(JR z ats (ds.zip rows)).map Prod.snd,by rw[q8];exact hcut,by rw[q8,G],?_⟩;intro t d cs' h1 h2;rw[<-SA z ats ds rows K,Ba]at h1;rw[Ba]at h2
    cases hK:(JR z ats (ds.zip rows))[t]? with
    |none=>rw[hK]at h1;simp at h1
    |some p=>
     rw[hK]at h1 h2;simp only[Option.map_some,Al]at h1 h2;have j1:p∈ds.zip rows:=(List.mem_filter.1 (AP hK)).1;obtain⟨k,hk,j2⟩:=B3 j1;rw[dT]at j2;have y3:k<ds.length:=by simp at hk;omega
     have:=hr k ds[k] rows[k] (by simp) (by simp);rw[<-h1,<-h2,<-j2];exact this.only L z2
   have y0:(i:Int)<=(ds.length:Int):=by omega
   have y1:(ds.length:Int)<=(cap:Int):=by omega
   clear M Y s hcut G c;generalize wr.setCells g (i*6) (zv (ds.length-i))=wz at*;go_wp2_with (simp only[q6])
   go_ret
   exact⟨i,rfl,q7,L⟩
theorem Ps(w:World)(base bb:Nat)(v:Value)(D ds:List Bd)(C:Aw w bb [v] 59)(R:AY w base v D)(_:base<=w.heap.size)(s:ByteArray)(x y g b:ByteArray)(n:Int)(J:QJ base bb D s true x y g b n)
 (L:∀(W:World) (ao:Option Addr) (cap B:Nat),AY W base (.slice ao D.length cap) D->Aw W B [.string x,.int .i64 n,.string y,.string g,.string b] 80->Calls prog 44 #[.slice ao D.length cap,.func (.func 71) #[] #[.pointer (some ⟨B,0,none⟩)]] W fun e w'=>∃m:Nat,e=.returned (.slice ao m cap)/\AY w' base (.slice ao m cap) ds/\A3 (fun k=>(Value.slice ao D.length cap).ownBlock=some k) W w'):
 Calls prog 18 #[.pointer (some ⟨bb,0,none⟩),.string s] w fun e w'=>e=.returned (.tuple #[.int .i64 0,.int .i64 0])/\(∃v',Aw w' bb [v'] 59/\AY w' base v' ds/\(v'.ownBlock=v.ownBlock\/∀k,v'.ownBlock=some k->w.heap.size<=k))/\A3 (fun k=>k=bb\/v.ownBlock=some k) w w':=by
 have j2:bb<w.heap.size:=C.lt;obtain⟨ao,cap,rfl⟩:=R.form;have G:Dm w base bb D:=⟨_,C,R⟩;have O:=Ao (J.reads w G);have X:=Ao J.de;have HD:=Ao L;clear L;have E:=Ao J.has;have Y:=Ao G;clear J G;go_enter func18,ntmps18;go_wp2_with fail;refine(O.out).mono ?_;rintro e w1 ⟨rfl,j⟩;have K:=Ao ((Y.out.below j).below (Ac w1 (.cells #[.string x,.int .i64 n,.string y,.string g,.string b] 80)));have r:=Ao (j.trans ((Ac w1 (.cells #[.string x,.int .i64 n,.string y,.string g,.string b] 80)).mono j.size));have j3:=r.out.size;have h1:=(C.below j).below (Ac w1 (.cells #[.string x,.int .i64 n,.string y,.string g,.string b] 80));have h2:=(R.below j).below (Ac w1 (.cells #[.string x,.int .i64 n,.string y,.string g,.string b] 80));have i:=(Y.out.below j);obtain⟨v',k1,k2⟩:=i;have i:=k1.lt;have j1:bb≠w1.heap.size:=by omega
 have c0:=h1.cell 0;have Z:=Ao h1;have Q:=Ao (h2.below (Ag _ _).drew);clear h1 h2 Y O K k1 k2;have p:(w1.alloc (.cells #[.string x,.int .i64 n,.string y,.string g,.string b] 80)).heap.size=w1.heap.size+1:=by simp
 obtain⟨q0,q1,q2,q3,q4⟩:=(Aw.new w1 [.string x,.int .i64 n,.string y,.string g,.string b] 80).c5;have A:=Ao (Aw.new w1 [.string x,.int .i64 n,.string y,.string g,.string b] 80);go_wp2_with fail;generalize hw:(w1.alloc (.cells #[.string x,.int .i64 n,.string y,.string g,.string b] 80))=u at*;generalize w1.heap.size=M at*;clear hw j
 go_region_with (first|(go_at_call 39;refine(X.out _).mono ?_;rintro e w2 ⟨rfl,c,z⟩;have V:=(Z.out.drew.below z).cell 0)|(go_at_call 38;refine(E.out w2 ao cap (M+1) (Q.out.below z) (by rw[<-p];exact c)).mono ?_;rintro e w3 ⟨rfl,f⟩))
 all_goals
  have q:=z.trans (f.mono z.size);have I:=r.out.drew.trans (q.mono (by simp;omega));have hC:=Z.out.drew.below q;have q5:=hC.cell 0;have fC:=hC.frozen;have HP:=Ao ((Q.out.below q).below (Ag _ _).drew);have l:(Value.slice ao D.length cap).ownBlock≠some bb/\∀k,(Value.slice ao D.length cap).ownBlock=some k->base<=k:=by obtain⟨rows,H,_,_⟩:=Q.out.below q;exact⟨Av H hC (by decide),A9 H⟩
  have HN:=Ao l;have hq:=(A.out.drew.below q);obtain⟨p0,p1,p2,p3,p4⟩:=hq.c5;have j0:bb<w3.heap.size:=hC.lt;have q9:M<w3.heap.size:=hq.lt;have N:=Ao hC;clear Z Q A E r q0 q1 q2 q3 q4 c0 V c z f q hq hC l;go_wp2_with fail
  go_region_with (first|(go_at_call 39;refine(X.out _).mono ?_;rintro e w4 ⟨rfl,U,d⟩;have q6:=(N.out.drew.below d).cell 0)|(go_at_call 44;refine(HD.out w4 ao cap w3.heap.size (HP.out.below d) (by exact U)).mono ?_;rintro e w5 ⟨m5,rfl,P,o⟩;have t:=(N.out.drew.below d).only o HN.out.1;have q7:=t.cell 0;have q8:=t.frozen))
  all_goals
   have a:Below w.heap.size w w4:=I.drew.trans (d.mono (by have:=I.size;simpa using this));go_wp2_with fail;go_ret2;refine⟨rfl,⟨_,t.setCell 0 _,P.set t (by decide) (by decide) 0 _,.inl (by cases ao<;>rfl)⟩,?_⟩;refine A3.setCell ?_ (.inl (.inl rfl)) _;exact(A3.ab (S:=fun k=>k=bb\/(Value.slice ao D.length cap).ownBlock=some k) a).trans o (fun k _ h=>.inr h)
theorem MV(w:World)(base bb:Nat)(cs:List RC)(u:Dm w base bb (cs.map RC.d))(hW:∀d∈cs.map RC.d,d.WF)(hn:cs.length<=40)(s:ByteArray)(hs:s.size<=maxLen)(x y:Nat)(j:E0 cs s=(x,y))(hx:x≠0):
 Calls prog 18 #[.pointer (some ⟨bb,0,none⟩),.string s] w fun e w'=>e=.returned (.tuple #[.int .i64 (x:Nat),.int .i64 (y:Nat)])/\Below w.heap.size w w':=by
 have v:=Ao (Ns w base bb cs u hW hn s hs);have k:=Ao j;have q0:(((x:Nat):Int) != 0)=true:=by rw[GG];omega
 clear j;go_enter func18,ntmps18;go_wp2_with fail;refine(v.out).mono ?_;rintro e w1 ⟨z,q⟩;rw[k.out,Af hx]at z;subst z;unfold zA;go_wp2_with fail;go_ret2;exact⟨rfl,q.alloc q.size _⟩
theorem bB(cs:List RC)(q:∀c∈cs,c.Good)(a:RA)(j:a.neg=false)(k:LA a.name/\∀t∈a.ts,LA t.s)(z:∀t∈a.ts,t.var=Bo t.s)(y:EV a.ts=none):((cs.map RC.d).filter fun d=> !EU a.name (a.ts.map RT.s) d)=(cs.filter (EH a.shown)).map RC.d:=by
 induction cs with
 |nil=>rfl
 |cons c cs v=>have h1:=Ms c (q c (by simp)) a j k z y;have h2:=v (fun c hc=>q c (by simp[hc]));rw[A6,G2,G2,<-h1,h2];show _=List.map RC.d (if(!(c.body.isEmpty&&decide (c.shown=a.shown++[46])))=true then _ else _);cases(c.body.isEmpty&&decide (c.shown=a.shown++[46]))<;>simp
theorem U8(w:World)(base bb:Nat)(v:Value)(cs:List RC)(t:base<=w.heap.size)(f:Aw w bb [v] 59)(x:AY w base v (cs.map RC.d))(K:∀c∈cs,c.Good)(hW:∀d∈cs.map RC.d,d.WF)(hn:cs.length<=40)(s:ByteArray)(hs:s.size<=maxLen):
 Calls prog 18 #[.pointer (some ⟨bb,0,none⟩),.string s] w fun e w'=>GL w base bb v (Cx cs s) e w':=by
 have Z:Dm w base bb (cs.map RC.d):=⟨v,f,x⟩;have l:(cs.map RC.d).length<=40:=by simpa using hn
 by_cases q:(Cn cs s).1≠0
 ·have n:E0 cs s=((Cn cs s).1,(Cn cs s).2):=by unfold E0;rw[Ai q]
  refine(MV w base bb cs Z hW hn s hs _ _ n q).mono ?_;rintro e w' ⟨rfl,z⟩;exact EG f x (Lv q) z
 ·obtain⟨a,hq,hok⟩:=OT (by simpa using q);have b:=JW hok hq;obtain⟨u,Q,y⟩:=GO hq
  cases hg:EV a.ts with
  |some p=>
   have n:E0 cs s=(6,p):=by unfold E0;rw[hok,Af (by simp),hq];simp only[];rw[hg]
   refine(MV w base bb cs Z hW hn s hs _ _ n (by decide)).mono ?_;rintro e w' ⟨rfl,z⟩;exact EG f x (by rw[b,hg]) z
  |none=>
   have n:E0 cs s=(0,0):=by unfold E0;rw[hok,Af (by simp),hq];simp only[];rw[hg]
   have hR:dE base bb (cs.map RC.d) s a.name (a.ts.map RT.s):=by intro W h;refine(Ns W base bb cs h hW hn s hs).mono ?_;rintro e w' ⟨V,z⟩;rw[n,Ai rfl]at V;obtain⟨a',h1,h2⟩:=V;rw[hq]at h1;obtain rfl:=Be h1;exact⟨h2,z⟩
   have J:=jO base bb (cs.map RC.d) hW l s a.name (a.ts.map RT.s) hR;have o:=Qq cs K a u Q y hg;by_cases U:C0 cs a.shown=0
   ·rw[A5 (fun h=>by have:=o.1 h;omega)]at J;refine(Q6 w base bb (cs.map RC.d) Z s _ _ _ _ _ J).mono ?_;rintro e w' ⟨rfl,z⟩;exact EG f x (by rw[b,hg];simp only[];rw[Ai U]) z
   ·have j:0<=UA a.name (a.ts.map RT.s) (cs.map RC.d):=o.2 (by omega);rw[Bq j]at J;refine(Ps w base bb v (cs.map RC.d) ((cs.filter (EH a.shown)).map RC.d) f x t s _ _ _ _ _ J ?_).mono ?_
    ·intro W ao cap B hC z
     have i:0<(cs.map RC.d).length:=by
         cases hcs:cs.map RC.d with
         |nil=>rw[hcs]at j;simp[UA,JK]at j
         |cons d r=>simp
     obtain⟨g,bo,bcap,Y,_⟩:=FB hC 0 i;subst Y;refine(bR W base g cap (cs.map RC.d) hC hW l B a.name (a.ts.map RT.s) z j).mono ?_;rintro e w' ⟨m,rfl,h1,h2⟩;rw[bB cs K a u Q y hg]at h1;exact⟨m,rfl,h1,h2.mono (fun k R=>by rw[R];rfl)⟩
    ·rintro e w' ⟨rfl,⟨v',h1,h2,h3⟩,G⟩;unfold GL;rw[b,hg];simp only[];rw[Af U];exact⟨rfl,⟨v',h1,h2,h3⟩,G⟩
end
section
theorem T3(n:Nat)(l:B8)(c:RC)(r:B8)(h:GK n l=some (c,r)):c.head.neg=false:=by
 unfold GK at h;rw[BK]at h;obtain⟨⟨a,r'⟩,h1,h2⟩:=h;have j:=ME _ _ _ _ _ _ h1;simp only[]at h2
 split at h2
 ·split at h2
  ·simp at h2;rw[<-h2.1];exact j
  ·simp at h2
 ·split at h2
  ·simp at h2
  ·rw[BK]at h2;obtain⟨⟨b,r2⟩,h3,q⟩:=h2;simp only[]at q
   split at q
   ·simp at q;rw[<-q.1];exact j
   ·simp at q
theorem XD(n f:Nat)(acc:List RC)(l:B8)(cs:List RC)(h:IY n f acc l=some cs)(q:∀c∈acc,c.head.neg=false):∀c∈cs,c.head.neg=false:=by
 induction f generalizing acc l with
 |zero=>
  rw[IY]at h
  split at h
  ·simp at h;rw[<-h];exact q
  ·simp at h
 |succ f j=>
  rw[IY]at h
  split at h
  ·simp at h;rw[<-h];exact q
  ·rw[BK]at h;obtain⟨⟨c,r⟩,h1,h2⟩:=h;refine j _ _ h2 ?_;intro x hx;rw[Bi,A7]at hx;rcases hx with h|rfl
   ·exact q x h
   ·exact T3 _ _ _ _ h1
structure KJ(cs:List RC):Prop where
 bq:∀c∈cs,c.Good
 wf:∀d∈cs.map RC.d,d.WF
 bp:cs.length<=40
theorem Sk(c:RC)(h:c.d.WF):c.Small:=by
 have j:∀x,(x=(c.head.name,c.head.ts.map RT.s)\/∃a∈c.body,x=(a.name,a.ts.map RT.s))->x.1.length<=12/\x.2.length<=3/\∀t∈x.2,t.length<=12:=by
  intro x hx;refine h.words x ?_;rcases hx with rfl|⟨a,q,rfl⟩
  ·simp[Bd.atoms,RC.d]
  ·simp only[Bd.atoms,RC.d,C6,Br,C4];exact .inr ⟨a,q,rfl⟩
 have mk:∀a:RA,(a.name.length<=12/\(a.ts.map RT.s).length<=3/\∀t∈a.ts.map RT.s,t.length<=12)->a.Small:=by intro a q;exact⟨q.1,by simpa using q.2.1,fun t ht=>q.2.2 t.s (Cl ht)⟩
 refine⟨mk _ (j _ (.inl rfl)),by simpa[RC.d]using h.lits,fun a q=>mk a (j _ (.inr ⟨a,q,rfl⟩))⟩
theorem X5(s:ByteArray)(cs:List RC)(h:(T s.size s.data.toList).bind (PP [])=some cs):KJ cs:=by
 have j:=Gc s;rw[h]at j;obtain⟨h1,h2⟩:=Iu s;have h3:=Px s;rw[j.2]at h1 h2 h3;have q:∀c∈cs,c.head.neg=false:=by rw[NY s.size 40 [] _ rfl]at h;exact XD _ _ _ _ _ h (by simp)
 refine⟨fun c hc=>⟨Sk c (h2 c.d (Cl hc)),SY s cs h c hc,q c hc,h3 c.d (Cl hc)⟩,h2,by simpa using h1⟩
theorem X6{s:ByteArray}{a:RA}(h:B0 s=some a):RC.Good ⟨a,[]⟩/\(RC.d ⟨a,[]⟩).WF:=by
 obtain⟨hn,u,g⟩:=GO h;have q:=EA h;have z:a.ts.length<=3:=q.bp
 have j:(RC.d ⟨a,[]⟩).WF:=by
  refine⟨rfl,by simp[RC.d],?_,?_⟩
  ·intro x hx;simp[Bd.atoms,RC.d]at hx;subst hx;exact⟨q.name,by simpa using q.bp,by intro t ht;simp at ht;obtain⟨y,k,rfl⟩:=ht;exact q.words y k⟩
  ·intro p v;simp[RC.d]at v;subst v;simpa using z
 refine⟨⟨Sk _ j,⟨g,by simp⟩,hn,⟨u.1,?_⟩⟩,j⟩;intro t ht;simp[RC.d]at ht;obtain⟨y,k,rfl⟩:=ht;exact u.2 y k
theorem TF(cs:List RC)(s:ByteArray)(h:KJ cs):KJ (CS cs s).2:=by
 unfold CS
 split
 ·exact h
 ·split
  ·exact h
  ·rename_i a hq
   split
   ·exact h
   ·split
    ·exact h
    ·split
     ·exact h
     ·rename_i q0;obtain⟨q,g2⟩:=X6 hq;refine⟨?_,?_,by simp;omega⟩
      ·intro c hc;simp at hc;rcases hc with hc|rfl
       ·exact h.bq c hc
       ·exact q
      ·intro d hd;rw[A8,Bi]at hd;rcases hd with hd|hd
       ·exact h.wf d hd
       ·simp at hd;rw[hd];exact g2
theorem Rv(cs:List RC)(s:ByteArray)(h:KJ cs):KJ (Cx cs s).2:=by
 unfold Cx
 split
 ·exact h
 ·split
  ·exact h
  ·split
   ·exact h
   ·split
    ·exact h
    ·refine⟨fun c hc=>h.bq c (List.mem_filter.1 hc).1,?_,Ay (Jf _ _) h.bp⟩;intro d hd;obtain⟨c,hc,rfl⟩:=List.mem_map.1 hd;exact h.wf _ (Cl (List.mem_filter.1 hc).1)
def JP(cs:List RC):Prop:=∀a∈A2 cs,∀b∈A2 cs,a.name=b.name->a.ts.length=b.ts.length
def Na(cs:List RC):Prop:=∀c∈cs,D2 c=none
theorem Fg{cs:List RC}{a:RA}:a∈A2 cs↔ ∃c∈cs,a=c.head\/a∈c.body:=by unfold A2;simp only[C5,Br]
theorem KQ{all:List RA}:∀{l:List RA},Dr all l=none->∀a∈l,Cz all a.name=((a.ts.length:Nat):Int):=by
 intro l
 induction l with
 |nil=>simp
 |cons x r j=>
  intro h a q;rw[Dr]at h
  split at h
  ·rename_i hx;rcases List.mem_cons.1 q with rfl|q
   ·exact hx
   ·exact j h a q
  ·simp at h
theorem gO{cs:List RC}(h:Dr (A2 cs) (A2 cs)=none):JP cs:=by intro a q b hb e;have h1:=KQ h a q;have h2:=KQ h b hb;rw[e]at h1;omega
theorem eC:∀{cs:List RC},El cs=none->Na cs:=by
 intro cs
 induction cs with
 |nil=>intro _ c hc;simp at hc
 |cons x r q=>
  intro h c hc;rw[El,Jd]at h;rcases List.mem_cons.1 hc with rfl|hc
  ·exact h.1
  ·exact q h.2 c hc
theorem JP.at{cs:List RC}(h:JP cs){a:RA}(q:a∈A2 cs):Cz (A2 cs) a.name=((a.ts.length:Nat):Int):=by
 unfold Cz
 cases e:(A2 cs).find? fun x=>decide (x.name=a.name) with
 |none=>rw[FZ]at e;exact absurd (Bq rfl) (e a q)
 |some x=>have h1:=List.find?_some e;have h2:=lX e;have:=h x h2 a q (BV h1);simp only[this]
theorem QC{cs:List RC}{s:ByteArray}{a:RA}(hq:B0 s=some a)(q:¬(Cn cs s).1≠0)(j:JP cs):∀b∈A2 cs,b.name=a.name->b.ts.length=a.ts.length:=by
 intro b hb e;have h1:=j.at hb;rw[e]at h1;unfold Cn at q
 split at q
 ·simp at q
 ·rw[hq]at q;simp only[]at q
  split at q
  ·simp at q
  ·rename_i hn;apply Bj;intro q0;exact hn ⟨by omega,by omega⟩
theorem X4{ts:List RT}(h:EV ts=none):∀t∈ts,t.var=false:=by
 induction ts with
 |nil=>simp
 |cons t r j=>
  rw[EV]at h
  split at h
  ·simp at h
  ·rename_i q;intro x hx;rcases List.mem_cons.1 hx with rfl|hx
   ·simpa using q
   ·exact j h x hx
theorem M3{cs:List RC}(s:ByteArray)(h:JP cs)(h2:Na cs):JP (CS cs s).2/\Na (CS cs s).2:=by
 unfold CS
 split
 ·exact⟨h,h2⟩
 ·rename_i u
  split
  ·exact⟨h,h2⟩
  ·rename_i a hq
   split
   ·exact⟨h,h2⟩
   ·rename_i g
    split
    ·exact⟨h,h2⟩
    ·split
     ·exact⟨h,h2⟩
     ·have k:=QC hq u h;have z:∀x,x∈A2 (cs++[⟨a,[]⟩])↔x∈A2 cs\/x=a:=by intro x;unfold A2;simp
      refine⟨?_,?_⟩
      ·intro x hx y v e;rcases(z x).1 hx with j|j
       ·rcases(z y).1 v with q|q
        ·exact h x j y q e
        ·rw[q]at e⊢;exact k x j e
       ·rcases(z y).1 v with q|q
        ·rw[j]at e⊢;exact(k y q e.symm).symm
        ·rw[j,q]
      ·intro c hc;rcases List.mem_append.1 hc with hc|hc
       ·exact h2 c hc
       ·simp at hc;subst hc;unfold D2 Jp;rw[Option.or_none];unfold Gi;rw[Pe,FZ];intro t ht;rw[X4 g t ht];simp
theorem bG{cs cs':List RC}(h:∀c∈cs',c∈cs)(h1:JP cs)(h2:Na cs):JP cs'/\Na cs':=by refine⟨?_,fun c hc=>h2 c (h c hc)⟩;intro a z b hb e;obtain⟨c,hc,q⟩:=Fg.1 z;obtain⟨d,hd,j⟩:=Fg.1 hb;exact h1 a (Fg.2 ⟨c,h c hc,q⟩) b (Fg.2 ⟨d,h d hd,j⟩) e
theorem LK{cs:List RC}(s:ByteArray)(h:JP cs)(h2:Na cs):JP (Cx cs s).2/\Na (Cx cs s).2:=by
 unfold Cx
 split
 ·exact⟨h,h2⟩
 ·split
  ·exact⟨h,h2⟩
  ·split
   ·exact⟨h,h2⟩
   ·split
    ·exact⟨h,h2⟩
    ·exact bG (fun c hc=>(List.mem_filter.1 hc).1) h h2
end
end Go.Proofs.YtpbfiffgcgnidaaGreatDoor
