import Derived.Test.YtpbfiffgcgnidaaGreatDoorYal
import Derived.ProofKit
import Derived.LaidMore
import Derived.OpenShut
import Derived.Stop.Joined
import Derived.Test.YtpbfiffgcgnidaaGreatDoorY12
import Derived.Test.YtpbfiffgcgnidaaGreatDoorY13
namespace Go.Proofs.YtpbfiffgcgnidaaGreatDoor
set_option maxRecDepth 100000
set_option maxHeartbeats 4000000
set_option linter.unusedSimpArgs false
open Go.Proofs.Tryz
section
attribute [local go_sem] AE As
open Go.RowKit Go.WideMaps Go.Maps
def z6:List Value:=[.string ⟨#[]⟩,.slice none 0 0,.int .i64 0,.int .i64 0,.bool false,.slice none 0 0]
def nT(cs:List Value):Prop:=∃(nm:ByteArray) (v:Option Addr) (k q:Nat) (pl j:Int) (y:Bool) (bo:Option Addr) (z bcap:Nat),cs=[.string nm,.slice v k q,.int .i64 pl,.int .i64 j,.bool y,.slice bo z bcap]
def Il(w:World)(ps:List Pc)(i:Nat)(e:Ending)(w':World):Prop:=
 ∃(cs:List Value) (q:Int) (ok:Bool),e=.returned (.tuple #[.agg cs.toArray,.int .i64 q,.bool ok])/\nT cs/\Below w.heap.size w w'/\
  match CF (ps.drop i) with
  |none=>ok=false
  |some (c,r)=>ok=true/\BT w' w.heap.size c cs/\∃k:Nat,q=(k:Nat)/\r=ps.drop k/\k<=ps.length
theorem F6{w w':World}{ps:List Pc}{i:Nat}{cs:List Value}{q:Int}(j:Below w.heap.size w w')(h:CF (ps.drop i)=none)(hF:nT cs:=by exact⟨_,_,_,_,_,_,_,_,_,_,rfl⟩):Il w ps i (.returned (.tuple #[.agg cs.toArray,.int .i64 q,.bool false])) w':=⟨cs,q,false,rfl,hF,j,by rw[h]⟩
theorem T1{w w':World}{ps:List Pc}{i k:Nat}{cs:List Value}{c:RC}(j:Below w.heap.size w w')(h:CF (ps.drop i)=some (c,ps.drop k))(z:k<=ps.length)(q:BT w' w.heap.size c cs)(hF:nT cs:=by exact⟨_,_,_,_,_,_,_,_,_,_,rfl⟩):Il w ps i (.returned (.tuple #[.agg cs.toArray,.int .i64 (k:Nat),.bool true])) w':=⟨cs,_,true,rfl,hF,j,by rw[h];exact⟨rfl,q,k,rfl,rfl,z⟩⟩
def mQ(a:RA)(y:List RA×List Pc):Option (RC×List Pc):=match y.2 with
 |[]=>none
 |p::r=>if(p.mark==46&&decide (y.1.length<=4))=true then some (⟨a,y.1⟩,r) else none
theorem Mt(a:RA)(b:List RA)(p:Pc)(r:List Pc):mQ a (b,p::r)=if(p.mark==46&&decide (b.length<=4))=true then some (⟨a,b⟩,r) else none:=rfl
theorem VP(ps:List Pc)(h:BF ps=none):CF ps=none:=by unfold CF;rw[h];rfl
theorem T5(ps r:List Pc)(a:RA)(h:BF ps=some (a,r))(hn:a.neg=true):CF ps=none:=by unfold CF;rw[h,Option.bind_some,Ai hn]
theorem VO(ps r:List Pc)(a:RA)(h:BF ps=some (a,r))(hn:a.neg=false):CF ps=(BP [] r).bind (mQ a):=by unfold CF;rw[h,Option.bind_some,Af (by rw[hn];simp)];rfl
def M0(ps:List Pc)(acc:List RA)(q:Nat):Bool:=match ps.drop q with
 |[]=>false
 |p::_=>EW acc p
theorem Ow(ps:List Pc)(acc:List RA)(q:Nat)(hq:q<ps.length):M0 ps acc q=EW acc ps[q]:=by unfold M0;rw[Aa hq]
theorem Qt(ps:List Pc)(acc:List RA)(q:Nat)(hq:¬q<ps.length):M0 ps acc q=false:=by unfold M0;rw[AA (by omega)]
theorem aL(ps:List Pc)(acc:List RA)(q:Nat)(h:M0 ps acc q=true):q<ps.length/\BP acc (ps.drop q)=(BF (ps.drop (q+1))).bind fun x=>BP (acc++[x.1]) x.2:=by
 by_cases hq:q<ps.length
 ·refine⟨hq,?_⟩;rw[Ow ps acc q hq]at h;rw[Aa hq,KI,Ai h]
 ·rw[Qt ps acc q hq]at h;exact absurd h (by simp)
theorem aK(ps:List Pc)(acc:List RA)(q:Nat)(h:M0 ps acc q=false):BP acc (ps.drop q)=some (acc,ps.drop q):=by
 by_cases hq:q<ps.length
 ·rw[Ow ps acc q hq]at h;rw[Aa hq,KI,Af (by rw[h];simp)]
 ·rw[AA (by omega),dP]
theorem BY.set{w:World}{base:Nat}{a:RA}{cs:List Value}(h:BY w base a cs){b:Nat}{q:List Value}{t:TypeId}(hb:Aw w b q t)(h1:t≠130)(o:Nat)(x:Value):BY (w.setCell ⟨b,o,none⟩ x) base a cs:=by obtain⟨tv,hc,j⟩:=h;exact⟨tv,hc,AJ j ⟨b,o,none⟩ x (Av j hb h1)⟩
theorem BB.set{w:World}{own base:Nat}{v:Value}{l:List RA}(h:BB w own base v l){b:Nat}{q:List Value}{t:TypeId}(hb:Aw w b q t)(h1:t≠130)(h2:t≠69)(o:Nat)(x:Value):BB (w.setCell ⟨b,o,none⟩ x) own base v l:=by obtain⟨rows,j,y,k⟩:=h;exact⟨rows,AJ j ⟨b,o,none⟩ x (Av j hb h2),y,fun i a cs h3 z=>(k i a cs h3 z).set hb h1 o x⟩
theorem BB.di{w:World}{own base:Nat}{v:Value}{l:List RA}(h:BB w own base v l){b:Nat}{y:List Value}(hb:Aw w b y 71)(x0 q j z x4 x5:Value):
 BB ((((((w.setCell ⟨b,0,none⟩ x0).setCell ⟨b,1,none⟩ q).setCell ⟨b,2,none⟩ j).setCell ⟨b,3,none⟩ z).setCell ⟨b,4,none⟩ x4).setCell ⟨b,5,none⟩ x5) own base v l:=
 (((((h.set hb (by decide) (by decide) 0 x0).set (hb.setCell 0 x0) (by decide) (by decide) 1 q).set ((hb.setCell 0 x0).setCell 1 q) (by decide) (by decide) 2 j).set (((hb.setCell 0 x0).setCell 1 q).setCell 2 j) (by decide) (by decide) 3 z).set ((((hb.setCell 0 x0).setCell 1 q).setCell 2 j).setCell 3 z) (by decide) (by decide) 4 x4).set (((((hb.setCell 0 x0).setCell 1 q).setCell 2 j).setCell 3 z).setCell 4 x4) (by decide) (by decide) 5 x5
theorem ZF{w:World}{base:Nat}{e:TypeId}{size:Nat}{v:Value}{n:Nat}{xs:List Value}(h:w.ownsRow base e size v n xs)(A:Nat)(q:v.ownBlock≠some A)(x0 j z y x4 x5:Value):
 ((((((w.setCell ⟨A,0,none⟩ x0).setCell ⟨A,1,none⟩ j).setCell ⟨A,2,none⟩ z).setCell ⟨A,3,none⟩ y).setCell ⟨A,4,none⟩ x4).setCell ⟨A,5,none⟩ x5).ownsRow base e size v n xs:=
 AJ (AJ (AJ (AJ (AJ (AJ h ⟨A,0,none⟩ x0 q) ⟨A,1,none⟩ j q) ⟨A,2,none⟩ z q) ⟨A,3,none⟩ y q) ⟨A,4,none⟩ x4 q) ⟨A,5,none⟩ x5 q
theorem BB.one{w:World}{base:Nat}{v:Value}{l:List RA}(h:BB w base base v l):EN w base v l:=h
theorem XI{w w':World}{base own:Nat}{tv v:Value}{m n:Nat}{ys xs:List Value}(q:w.ownsRow base 130 3 tv m ys)(j:w.grownBy w' v.ownBlock)(z:w.ownsRow own 69 5 v n xs):w'.ownsRow base 130 3 tv m ys:=q.kept j (Em q z (by decide))
theorem BT.drew{w:World}{base:Nat}{c:RC}{cs:List Value}(h:BT w base c cs):BT w.drew base c cs:=h
theorem BB.nil(w:World)(own base:Nat):BB w own base (.slice none 0 0) []:=⟨[],Ak _ _ _ _,rfl,by simp⟩
theorem BB.mono{w:World}{own own' base base':Nat}{v:Value}{l:List RA}(h:BB w own base v l)(h1:own'<=own)(h2:base'<=base):BB w own' base' v l:=by obtain⟨rows,z,j,y⟩:=h;exact⟨rows,BS z h1,j,fun i a cs h3 q=>(y i a cs h3 q).mono h2⟩
theorem LM(w:World)(base:Nat)(ao:Option Addr)(cap:Nat)(ps:List Pc)(R:Fj w base ao cap ps)(hn:ps.length<=3000)(i:Nat)(J:i<=ps.length)(hs:BF (ps.drop i)=none\/∃a r,BF (ps.drop i)=some (a,r)/\a.neg=true):
 Calls prog 62 #[.slice ao ps.length cap,.int .i64 (i:Nat)] w fun e w'=>Il w ps i e w':=by
 have t:Fj ((w.alloc (.cells z6.toArray 71)).alloc (.cells z6.toArray 71)) base ao cap ps:=R.below (((Ag _ w).alloc (Ab _) _).alloc (by simp) _);have j:=EI w z6 71 z6 71;have z:=C9 w (.cells z6.toArray 71) z6 71;have g:Below w.heap.size w ((w.alloc (.cells z6.toArray 71)).alloc (.cells z6.toArray 71)):=((Ag _ w).alloc (Ab _) _).alloc (by simp) _;rcases hs with hs|⟨a,r,hs,b⟩
 ·have m:=Ao hs;have n:=Ao (VP _ hs);clear hs;go_enter func62,ntmps62;go_wp2_with (go_at_call 100;refine(MC _ base ao cap ps (by exact t) hn i J).mono ?_;rintro e w1 ⟨cs,Z,ok,rfl,hF,q,d⟩;obtain⟨nm,C,tl,c,pl,bg,ng,rfl⟩:=hF;rw[m.out]at d;simp only[]at d;subst d;obtain⟨r0,r1,f,o,l,Q⟩:=(j.below q).c6;obtain⟨Y,K,V,U,G,c5⟩:=(z.below q).c6;have B:=(j.below q).frozen;have s:=(z.below q).lt;have u:=(j.below q).lt);have y:Below w.heap.size w w1:=g.trans (q.mono g.size);refine Aq (v:=.tuple #[.agg #[.string ⟨#[]⟩,.slice none 0 0,.int .i64 0,.int .i64 0,.bool false,.slice none 0 0],.int .i64 Z,.bool false]) (by simp[results,results62,go_sem,r0,r1,f,o,l,Q,u]) rfl ?_;refine F6 (cs:=[.string ⟨#[]⟩,.slice none 0 0,.int .i64 0,.int .i64 0,.bool false,.slice none 0 0]) ?_ n.out;refine DU ?_ (by have:=y.size;simp;omega) _
  repeat (refine AQ ?_ (by simp only[];omega) _)
  exact y
 ·have m:=Ao hs;have n:=Ao (T5 _ _ _ hs b);have x:=Ao b;clear hs b;go_enter func62,ntmps62;go_wp2_with (go_at_call 100;refine(MC _ base ao cap ps (by exact t) hn i J).mono ?_;rintro e w1 ⟨cs,Z,ok,rfl,hF,q,d⟩;clear hF;rw[m.out]at d;obtain⟨rfl,⟨tv,p,P⟩,k,rfl,-,hk⟩:=d;rw[x.out]at p;subst p;obtain⟨C,c,rfl⟩:=Au P;obtain⟨r0,r1,f,o,l,Q⟩:=(j.below q).c6;obtain⟨Y,K,V,U,G,c5⟩:=(z.below q).c6;have B:=(j.below q).frozen;have s:=(z.below q).lt;have u:=(j.below q).lt);have y:Below w.heap.size w w1:=g.trans (q.mono g.size);refine Aq (v:=.tuple #[.agg #[.string ⟨#[]⟩,.slice none 0 0,.int .i64 0,.int .i64 0,.bool false,.slice none 0 0],.int .i64 (k:Nat),.bool false]) (by simp[results,results62,go_sem,r0,r1,f,o,l,Q,u]) rfl ?_;refine F6 (cs:=[.string ⟨#[]⟩,.slice none 0 0,.int .i64 0,.int .i64 0,.bool false,.slice none 0 0]) ?_ n.out;refine DU ?_ (by have:=y.size;simp;omega) _
  repeat (refine AQ ?_ (by simp only[];omega) _)
  exact y
theorem TZ(w:World)(base:Nat)(g cap:Nat)(ps:List Pc)(hP:Fj w base (some ⟨g,0,none⟩) cap ps)(hn:ps.length<=3000)(i:Nat)(hi:i<=ps.length)(a:RA)(k0:Nat)(_:k0<=ps.length)(hs:BF (ps.drop i)=some (a,ps.drop k0))(q6:a.neg=false)(hg:g<w.heap.size):
 Calls prog 62 #[.slice (some ⟨g,0,none⟩) ps.length cap,.int .i64 (i:Nat)] w fun e w'=>Il w ps i e w':=by
 obtain⟨i1,y6,k2,k4,k5⟩:=Bc I5;have j4:Fj ((w.alloc (.cells z6.toArray 71)).alloc (.cells z6.toArray 71)) base (some ⟨g,0,none⟩) cap ps:=hP.below (((Ag _ w).alloc (Ab _) _).alloc (by simp) _);have o:=EI w z6 71 z6 71;have s:=C9 w (.cells z6.toArray 71) z6 71;have q2:Below w.heap.size w ((w.alloc (.cells z6.toArray 71)).alloc (.cells z6.toArray 71)):=((Ag _ w).alloc (Ab _) _).alloc (by simp) _;have HA:=Ao hs;have P:=Ao (VO _ _ _ hs q6);have j0:=Ao q6;clear hs q6;go_enter func62,ntmps62;go_wp2_with (go_at_call 100;refine(MC _ base _ cap ps (by exact j4) hn i hi).mono ?_;rintro e w1 ⟨cs,nx,ok,rfl,hF,y,E⟩;clear hF;rw[HA.out]at E;obtain⟨rfl,⟨tv,N,hT⟩,k,rfl,G,hk⟩:=E;rw[j0.out]at N;subst N;obtain⟨t,j,rfl⟩:=Au hT;have O:=Ao G;clear G;obtain⟨r0,r1,W,h,r4,r5⟩:=(o.below y).c6;obtain⟨c0,c1,c2,c3,c4,c5⟩:=(s.below y).c6;have fC:=(s.below y).frozen;have y4:=(s.below y).lt;have z2:=(o.below y).lt);have d:Below w.heap.size w w1:=q2.trans (y.mono q2.size);have y9:=d.size;have q3:=BS hT (base':=w.heap.size) (by simp;omega)
 go_loopw [9] (fun iv wr=>∃(q:Nat) (acc:List RA) (bv:Value),iv=.int .i64 q/\q<=ps.length/\acc.length<=q/\Hid (BP acc (ps.drop q)=BP [] (ps.drop k0))/\Aw wr w.heap.size z6 71/\Aw wr (w.heap.size+1) [.string a.w,.slice t a.ts.length j,.int .i64 (a.pl:Nat),.int .i64 (a.af:Nat),.bool false,bv] 71/\wr.ownsRow w.heap.size 130 3 (.slice t a.ts.length j) a.ts.length (a.ts.flatMap RT.cells)/\BB wr w.heap.size w.heap.size bv acc/\Below w.heap.size w wr) (fun iv _=>ps.length-(intOf iv).toNat)
 case atStart=>
  have j3:=s.below y;have y3:=o.below y;refine⟨k,[],.slice none 0 0,by go_num,hk,by simp,by rw[<-O.out];rfl,?_,?_,?_,BB.nil _ _ _,?_⟩
  ·exact(((((y3.setOther ⟨w.heap.size+1,0,none⟩ _ (by simp)).setOther ⟨w.heap.size+1,1,none⟩ _ (by simp)).setOther ⟨w.heap.size+1,2,none⟩ _ (by simp)).setOther ⟨w.heap.size+1,3,none⟩ _ (by simp)).setOther ⟨w.heap.size+1,4,none⟩ _ (by simp)).alloc _
  ·exact(((((j3.setCell 0 _).setCell 1 _).setCell 2 _).setCell 3 _).setCell 4 _).alloc _
  ·have B:=Av q3 j3 (by decide);exact(AJ (AJ (AJ (AJ (AJ q3 ⟨w.heap.size+1,0,none⟩ _ B) ⟨w.heap.size+1,1,none⟩ _ B) ⟨w.heap.size+1,2,none⟩ _ B) ⟨w.heap.size+1,3,none⟩ _ B) ⟨w.heap.size+1,4,none⟩ _ B).alloc _
  ·refine DU ?_ (by simp;omega) _
   repeat (refine AQ ?_ (by simp only[];omega) _)
   exact d
 case round=>
  clear r0 r1 W h r4 r5 c0 c1 c2 c3 c4 c5 fC o s j4 hT q3 y q2 d y9 y4 z2 O HA;obtain⟨q,acc,bv,rfl,hq,v2,K,hR,hA,hT,hG,C⟩:=hrel;obtain⟨bo,bcap,rfl⟩:=hG.form;obtain⟨a0,a1,a2,a3,a4,a5⟩:=hA.c6;obtain⟨r0,r1,W,h,r4,r5⟩:=hR.c6;have fR:=hR.frozen;have fA:=hA.frozen;have z0:=hA.lt;have v6:g<wr.heap.size:=by have:=C.size;omega
  have v4:g≠w.heap.size:=by omega
  have v5:g≠w.heap.size+1:=by omega
  have J:w.heap.size≠g:=by omega
  have v8:=IV q (by omega);have j5:∀(k:Nat) (hk:k<ps.length),wr.cell? ⟨g,k*3,none⟩=some (.int .u8 ps[k].m):=by intro k hk;obtain⟨g',z3,v3,n0,n1,n2⟩:=DN hP k hk;simp only[Al,BM,Dx]at z3;subst z3;rw[C.cell (p:=⟨g,k*3,none⟩) hg];exact n0
  have j1:=Ao j5;have l:=Ao hR;have q1:=Ao hA;clear j5 hR hA;go_upto_region 6 with fail
  go_cut [62] from 31 to 81 (fun gv wx=>gv=.bool (M0 ps acc q)/\wx=wr)
  case first=>
   by_cases f:q<ps.length
   ·have b0:=j1.out q f;have c:=Ao (Ow ps acc q f);by_cases X:acc=[]
    ·have z7:acc.length=0:=by rw[X];rfl
     have q8:(acc.length:Int)=0:=by omega
     have v9:((acc.length:Int)==0)=true:=by rw[q8];rfl
     have k6:¬(0:Int)<(acc.length:Int):=by omega
     have u0:decide ((0:Int)<(acc.length:Int))=false:=A5 k6;have k7:¬0<acc.length:=by omega
     have u1:decide (0<acc.length)=false:=A5 k7;cases h58:(ps[q].mark==58)
     ·have H:=DJ _ 58 58 rfl h58;have k3:¬ps[q].m=58:=by simpa using H
      have Y:=Ao (c.out.trans (by rw[EW,h58,X];simp:EW acc ps[q]=false));clear X z7 q8 h58 c;cases h44:(ps[q].mark==44)
      ·have l1:=DJ _ 44 44 rfl h44;have l3:¬ps[q].m=44:=by simpa using l1
       clear h44;go_wp2_with fail;go_meet;exact⟨Bl Value.bool Y.out.symm,rfl⟩
      ·have l1:=Dp _ 44 44 rfl h44;have l3:ps[q].m=44:=by simpa using l1
       clear h44;go_wp2_with fail;go_meet;exact⟨Bl Value.bool Y.out.symm,rfl⟩
     ·have H:=Dp _ 58 58 rfl h58;have k3:ps[q].m=58:=by simpa using H
      have Y:=Ao (c.out.trans (by rw[EW,h58,X];rfl:EW acc ps[q]=true));clear X z7 q8 h58 c;go_wp2_with fail;go_meet;exact⟨Bl Value.bool Y.out.symm,rfl⟩
    ·have k8:acc.length≠0:=by cases acc with
      |nil=>exact absurd rfl X
      |cons a b=>simp
     have S:acc.isEmpty=false:=by cases acc with
      |nil=>exact absurd rfl X
      |cons a b=>rfl
     have z4:¬(acc.length:Int)=0:=by omega
     have k9:((acc.length:Int)==0)=false:=by simpa using z4
     have v0:(0:Int)<(acc.length:Int):=by omega
     have q5:0<acc.length:=by omega
     have y7:decide (0<acc.length)=true:=Bq q5;cases h44:(ps[q].mark==44)
     ·have l1:=DJ _ 44 44 rfl h44;have l3:¬ps[q].m=44:=by simpa using l1
      have Y:=Ao (c.out.trans (by rw[EW,h44,S];simp:EW acc ps[q]=false));clear X h44 c S;cases h58:(ps[q].mark==58)
      ·have H:=DJ _ 58 58 rfl h58;have k3:¬ps[q].m=58:=by simpa using H
       clear h58;go_wp2_with fail;go_meet;exact⟨Bl Value.bool Y.out.symm,rfl⟩
      ·have H:=Dp _ 58 58 rfl h58;have k3:ps[q].m=58:=by simpa using H
       clear h58;go_wp2_with fail;go_meet;exact⟨Bl Value.bool Y.out.symm,rfl⟩
     ·have l1:=Dp _ 44 44 rfl h44;have l3:ps[q].m=44:=by simpa using l1
      have k3:¬ps[q].m=58:=by omega
      have H:(ps[q].m==58)=false:=by simpa using k3
      have Y:=Ao (c.out.trans (by rw[EW,h44,S];simp:EW acc ps[q]=true));clear X h44 c S;go_wp2_with fail;go_meet;exact⟨Bl Value.bool Y.out.symm,rfl⟩
   ·have Y:=Ao (Qt ps acc q f);go_wp2_with fail;go_meet;exact⟨Bl Value.bool Y.out.symm,rfl⟩
  case rest=>
   obtain⟨y5,v7⟩:=hcut;subst y5;subst wc;cases hgo:M0 ps acc q
   ·have A:=Ao (aK ps acc q hgo);have R:=Av hT l.out (by decide);clear hgo;by_cases f:q<ps.length
    ·have b0:=j1.out q f;have Q:ps.drop q=ps[q]::ps.drop (q+1):=Aa f;cases h46:(ps[q].mark==46)
     ·have M:=Ao (show CF (ps.drop i)=none by rw[P.out,<-K.out,A.out,Q,Option.bind_some,Mt,h46];rfl);have n1:=DJ _ 46 46 rfl h46;have n2:¬ps[q].m=46:=by simpa using n1
      clear P K A Q h46;go_upto_region 12 with fail
      go_region
      all_goals go_wp2_with fail
      all_goals
       refine Aq (v:=.tuple #[.agg #[.string a.w,.slice t a.ts.length j,.int .i64 (a.pl:Nat),.int .i64 (a.af:Nat),.bool false,.slice bo acc.length bcap],.int .i64 ((q:Nat)+1),.bool false]) (by simp[results,results62,go_sem,r0,r1,W,h,r4,r5]) rfl ?_;refine F6 (cs:=[.string a.w,.slice t a.ts.length j,.int .i64 (a.pl:Nat),.int .i64 (a.af:Nat),.bool false,.slice bo acc.length bcap]) ?_ M.out;refine DB ?_
       repeat (refine AQ ?_ (by simp only[];omega) _)
       exact C
     ·have n1:=Dp _ 46 46 rfl h46;have n2:ps[q].m=46:=by simpa using n1
      by_cases h4:acc.length<=4
      ·have M:=Ao (show CF (ps.drop i)=some (⟨a,acc⟩,ps.drop (q+1)) by rw[P.out,<-K.out,A.out,Q,Option.bind_some,Mt,h46,Bq h4];rfl);have z9:(acc.length:Int)<=4:=by omega
       clear P K A Q h46;go_upto_region 12 with fail
       go_region_held3 (fun w'=>w'.cell? ⟨w.heap.size+1,0,none⟩=some (.string a.w)/\w'.cell? ⟨w.heap.size+1,1,none⟩=some (.slice t a.ts.length j)/\w'.cell? ⟨w.heap.size+1,2,none⟩=some (.int .i64 (a.pl:Nat))/\w'.cell? ⟨w.heap.size+1,3,none⟩=some (.int .i64 (a.af:Nat))/\w'.cell? ⟨w.heap.size+1,4,none⟩=some (.bool false)/\w'.cell? ⟨w.heap.size+1,5,none⟩=some (.slice bo acc.length bcap)/\w'.cell? ⟨g,q*3,none⟩=some (.int .u8 ps[q].m)) (go_keep) (fail)
       all_goals go_wp2_with fail
       all_goals
        refine Aq (v:=.tuple #[.agg #[.string a.w,.slice t a.ts.length j,.int .i64 (a.pl:Nat),.int .i64 (a.af:Nat),.bool false,.slice bo acc.length bcap],.int .i64 ((q+1:Nat):Int),.bool true]) (by simp[results,results62,go_sem,r0,r1,W,h,r4,r5]) rfl ?_;refine T1 (k:=q+1) (cs:=[.string a.w,.slice t a.ts.length j,.int .i64 (a.pl:Nat),.int .i64 (a.af:Nat),.bool false,.slice bo acc.length bcap]) ?_ M.out (by omega) (BT.drew ⟨[.string a.w,.slice t a.ts.length j,.int .i64 (a.pl:Nat),.int .i64 (a.af:Nat),.bool false],.slice bo acc.length bcap,rfl,⟨.slice t a.ts.length j,by rw[j0.out],?_⟩,?_⟩)
        ·refine DB ?_
         repeat (refine AQ ?_ (by simp only[];omega) _)
         exact C
        ·exact ZF hT w.heap.size R (.string a.w) (.slice t a.ts.length j) (.int .i64 (a.pl:Nat)) (.int .i64 (a.af:Nat)) (.bool false) (.slice bo acc.length bcap)
        ·exact(hG.di l.out (.string a.w) (.slice t a.ts.length j) (.int .i64 (a.pl:Nat)) (.int .i64 (a.af:Nat)) (.bool false) (.slice bo acc.length bcap)).one
      ·have M:=Ao (show CF (ps.drop i)=none by rw[P.out,<-K.out,A.out,Q,Option.bind_some,Mt,h46,A5 h4];rfl);have z9:¬(acc.length:Int)<=4:=by omega
       clear P K A Q h46;go_upto_region 12 with fail
       go_region_held3 (fun w'=>w'.cell? ⟨w.heap.size+1,0,none⟩=some (.string a.w)/\w'.cell? ⟨w.heap.size+1,1,none⟩=some (.slice t a.ts.length j)/\w'.cell? ⟨w.heap.size+1,2,none⟩=some (.int .i64 (a.pl:Nat))/\w'.cell? ⟨w.heap.size+1,3,none⟩=some (.int .i64 (a.af:Nat))/\w'.cell? ⟨w.heap.size+1,4,none⟩=some (.bool false)/\w'.cell? ⟨w.heap.size+1,5,none⟩=some (.slice bo acc.length bcap)/\w'.cell? ⟨g,q*3,none⟩=some (.int .u8 ps[q].m)) (go_keep) (fail)
       all_goals go_wp2_with fail
       all_goals
        refine Aq (v:=.tuple #[.agg #[.string a.w,.slice t a.ts.length j,.int .i64 (a.pl:Nat),.int .i64 (a.af:Nat),.bool false,.slice bo acc.length bcap],.int .i64 ((q:Nat)+1),.bool false]) (by simp[results,results62,go_sem,r0,r1,W,h,r4,r5]) rfl ?_;refine F6 (cs:=[.string a.w,.slice t a.ts.length j,.int .i64 (a.pl:Nat),.int .i64 (a.af:Nat),.bool false,.slice bo acc.length bcap]) ?_ M.out;refine DB ?_
        repeat (refine AQ ?_ (by simp only[];omega) _)
        exact C
    ·have M:=Ao (show CF (ps.drop i)=none by rw[P.out,<-K.out,A.out,AA (by omega)];rfl);clear P K A;go_upto_region 12 with fail
     go_region
     all_goals go_wp2_with fail
     all_goals
      refine Aq (v:=.tuple #[.agg #[.string a.w,.slice t a.ts.length j,.int .i64 (a.pl:Nat),.int .i64 (a.af:Nat),.bool false,.slice bo acc.length bcap],.int .i64 ((q:Nat)+1),.bool false]) (by simp[results,results62,go_sem,r0,r1,W,h,r4,r5]) rfl ?_;refine F6 (cs:=[.string a.w,.slice t a.ts.length j,.int .i64 (a.pl:Nat),.int .i64 (a.af:Nat),.bool false,.slice bo acc.length bcap]) ?_ M.out;refine DB ?_
      repeat (refine AQ ?_ (by simp only[];omega) _)
      exact C
   ·obtain⟨f,I⟩:=aL ps acc q hgo;have HG:=Ao I;clear hgo I;have j6:=hP.below C;have q7:=C.size
    cases hat:BF (ps.drop (q+1)) with
    |none=>
     have q0:=Ao hat;have M:=Ao (show CF (ps.drop i)=none by rw[P.out,<-K.out,HG.out,hat];rfl);clear hat P K HG;go_wp2_with (go_at_call 100;refine(MC _ base _ cap ps (by exact j6) hn (q+1) (by omega)).mono ?_;rintro e w2 ⟨cs,nx,ok,rfl,hF,z,E⟩;obtain⟨nm,sq,tl,scap,pl,bg,ng,rfl⟩:=hF;rw[q0.out]at E;simp only[]at E;subst E;obtain⟨r0,r1,W,h,r4,r5⟩:=(l.out.below z).c6;obtain⟨a0,a1,a2,a3,a4,a5⟩:=(q1.out.below z).c6;have fR:=(l.out.below z).frozen;have z0:=(q1.out.below z).lt;have z1:=(l.out.below z).lt);refine Aq (v:=.tuple #[.agg #[.string a.w,.slice t a.ts.length j,.int .i64 (a.pl:Nat),.int .i64 (a.af:Nat),.bool false,.slice bo acc.length bcap],.int .i64 nx,.bool false]) (by simp[results,results62,go_sem,r0,r1,W,h,r4,r5,z1]) rfl ?_;have d:Below w.heap.size w w2:=C.trans (z.mono q7);refine F6 (cs:=[.string a.w,.slice t a.ts.length j,.int .i64 (a.pl:Nat),.int .i64 (a.af:Nat),.bool false,.slice bo acc.length bcap]) ?_ M.out;refine DU ?_ (by have:=d.size;simp;omega) _
     repeat (refine AQ ?_ (by simp only[];omega) _)
     exact d
    |some x=>
     obtain⟨b,r⟩:=x;have q0:=Ao hat;have z8:=Ao (show BP acc (ps.drop q)=BP (acc++[b]) r by rw[HG.out,hat];rfl);have HL:=Ao (Ht _ _ _ hat);obtain⟨rows,ho,hl,hr⟩:=hG;clear hat HG;go_wp2_with (first|(go_at_call 100;refine(MC _ base _ cap ps (by exact j6) hn (q+1) (by omega)).mono ?_;rintro e w2 ⟨cs,nx,ok,rfl,hF,z,E⟩;clear hF;rw[q0.out]at E;obtain⟨rfl,⟨tv,N,j9⟩,k,rfl,G,hk⟩:=E;subst N;obtain⟨sq,scap,rfl⟩:=Au j9;have q9:=Ao G;clear G;have V:=q1.out.below z;have j7:=l.out.below z;obtain⟨a0,a1,a2,a3,a4,a5⟩:=V.c6;have fA:=V.frozen;have z0:=V.lt;have Z:=Ah ho z)|(at_builtin;refine AF _ rfl _ _ 64 rfl w.heap.size 69 i1 _ 5 64 underlying64 y6 k2 k4 k5 rfl (by decide) _ acc.length rows.flatten rfl ((Z.alloc _).alloc _) ⟨w2.heap.size+1,0,none⟩ 1 [.string b.w,.slice sq b.ts.length scap,.int .i64 (b.pl:Nat),.int .i64 (b.af:Nat),.bool b.neg] rfl rfl (Gu _ _ _ _) (by intro u hu;simp at hu;rcases hu with rfl|rfl|rfl|rfl|rfl<;>rfl) (by unfold maxLen;omega) (by omega) (by simp;omega) ?_;intro g4 j2 w4 y8 J;have z5:=Av Z V (by decide);have R:=Av Z j7 (by decide);have U:=((V.alloc _).alloc _).grown J z5;have y2:=((j7.alloc _).alloc _).grown J R;have d5:=U.cell 5;have v1:=U.frozen;simp at d5));have d:Below w.heap.size w w2:=C.trans (z.mono q7);have h2:∀o2 o3,Below w2.heap.size w2 ((w2.alloc o2).alloc o3):=fun o2 o3=>((Ag _ w2).alloc (Ab _) o2).alloc (by simp) o3;have y0:BY w2 w.heap.size b [.string b.w,.slice sq b.ts.length scap,.int .i64 (b.pl:Nat),.int .i64 (b.af:Nat),.bool b.neg]:=⟨_,rfl,BS j9 q7⟩
     have q4:=BB.more (w:=(w2.alloc _).alloc _) (w':=w4) (own:=w.heap.size) (base:=w.heap.size) (b:=acc) (b2:=[b]) (rows2:=[[.string b.w,.slice sq b.ts.length scap,.int .i64 (b.pl:Nat),.int .i64 (b.af:Nat),.bool b.neg]]) hl (fun i a cs h1 h3=>((hr i a cs h1 h3).below z).below (h2 _ _)) rfl (fun i a cs h1 h3=>by
      cases i with
      |zero=>simp at h1 h3;subst h1;subst h3;exact y0.below (h2 _ _)
      |succ n=>simp at h1) ((Z.alloc _).alloc _) (by simpa using y8) J
     have j8:=XI (((Ah hT z).alloc _).alloc _) J ((Z.alloc _).alloc _);have y1:Below w.heap.size w w4:=(d.trans ((h2 _ _).mono d.size)).grown J (by simp;omega) (A9 Z);have L:=HL.out;rw[q9.out]at L;simp only[G1]at L;refine⟨⟨k,acc++[b],.slice (some ⟨g4,0,none⟩) (acc.length+1) j2,by go_num,hk,by simp;omega,by rw[<-K.out,z8.out,q9.out];rfl,y2.setOther ⟨w.heap.size+1,5,none⟩ _ (by simp),U.setCell 5 _,AJ j8 ⟨w.heap.size+1,5,none⟩ _ (Av j8 U (by decide)),q4.set U (by decide) (by decide) 5 _,y1.setCell (p:=⟨w.heap.size+1,5,none⟩) (by simp only[];omega) _⟩,by simp[intOf];omega⟩
theorem OL(w:World)(base:Nat)(ao:Option Addr)(cap:Nat)(ps:List Pc)(q:Fj w base ao cap ps)(hn:ps.length<=3000)(i:Nat)(j:i<=ps.length):
 Calls prog 62 #[.slice ao ps.length cap,.int .i64 (i:Nat)] w fun e w'=>Il w ps i e w':=by
 cases hat:BF (ps.drop i) with
 |none=>exact LM w base ao cap ps q hn i j (.inl hat)
 |some x=>
  obtain⟨a,r⟩:=x;cases hng:a.neg
  ·have z:i<ps.length:=by
    by_cases h:i<ps.length
    ·exact h
    ·rw[AA (by omega)]at hat;exact absurd hat (by simp[BF])
   obtain⟨g,rfl,y,_⟩:=DN q i z;obtain⟨k,v,u⟩:=cF ps i a r hat;subst u;exact TZ w base g cap ps q hn i j a k v hat hng y
  ·exact LM w base ao cap ps q hn i j (.inr ⟨a,r,hat,hng⟩)
theorem J4:(prog.info? 71).map (fun i=>(i.zero,i.size,i.bytes))=some (some (.agg #[.string ⟨#[]⟩,.slice none 0 0,.int .i64 0,.int .i64 0,.bool false,.slice none 0 0]),6,88):=by kernel_rfl
theorem BY.ev{w w':World}{base own:Nat}{a:RA}{cs:List Value}{v:Value}{n:Nat}{xs:List Value}(h:BY w base a cs)(j:w.grownBy w' v.ownBlock)(z:w.ownsRow own 71 6 v n xs):BY w' base a cs:=by obtain⟨tv,hc,q⟩:=h;exact⟨tv,hc,q.kept j (Em q z (by decide))⟩
theorem BT.kept{w w':World}{base own:Nat}{c:RC}{cs:List Value}{v:Value}{n:Nat}{xs:List Value}(h:BT w base c cs)(j:w.grownBy w' v.ownBlock)(z:w.ownsRow own 71 6 v n xs):BT w' base c cs:=by obtain⟨hc,y,e,k,rows,q,u,g⟩:=h;exact⟨hc,y,e,k.ev j z,rows,q.kept j (Em q z (by decide)),u,fun i a cs h1 h2=>(g i a cs h1 h2).ev j z⟩
theorem BT.mono{w:World}{base base':Nat}{c:RC}{cs:List Value}(h:BT w base c cs)(hb:base'<=base):BT w base' c cs:=by obtain⟨hc,j,e,z,rows,q,y,k⟩:=h;exact⟨hc,j,e,z.mono hb,rows,BS q hb,y,fun i a cs h1 h2=>(k i a cs h1 h2).mono hb⟩
theorem Ck.mono{w:World}{base base':Nat}{v:Value}{l:List RC}(h:Ck w base v l)(hb:base'<=base):Ck w base' v l:=by obtain⟨rows,j,q,z⟩:=h;exact⟨rows,BS j hb,q,fun i c cs h1 h2=>(z i c cs h1 h2).mono hb⟩
theorem Ck.nil(w:World)(base:Nat):Ck w base (.slice none 0 0) []:=⟨[],Ak _ _ _ _,rfl,by simp⟩
theorem Ck.form{w:World}{base:Nat}{v:Value}{l:List RC}(h:Ck w base v l):∃ao cap,v=.slice ao l.length cap:=by obtain⟨rows,q,hl,hr⟩:=h;exact Au q
theorem Ck.more{w w':World}{base:Nat}{v v':Value}{l:List RC}{c:RC}{cs:List Value}{rows:List (List Value)}(b:∀(i:Nat) (c:RC) (cs:List Value),l[i]? =some c->rows[i]? =some cs->BT w base c cs)(z:rows.length=l.length)
 (y:w.ownsRow base 71 6 v l.length rows.flatten)(hc:BT w base c cs)
 (q:w'.ownsRow base 71 6 v' (l.length+1) (rows.flatten++cs))(j:w.grownBy w' v.ownBlock):Ck w' base v' (l++[c]):=by
 refine⟨rows++[cs],by simpa using q,by simp[z],?_⟩;intro i u cs' h1 h2;by_cases g:i<l.length
 ·rw[AU g]at h1;rw[AU (by omega)]at h2;exact(b i u cs' h1 h2).kept j y
 ·rw[A0 (by omega)]at h1;rw[A0 (by omega),z]at h2
  cases hk:i-l.length with
  |zero=>rw[hk]at h1 h2;simp at h1 h2;subst h1;subst h2;exact hc.kept j y
  |succ k=>rw[hk]at h1;simp at h1
theorem nA(ps:List Pc)(acc:List RC)(q:Nat)(hq:q<ps.length):PP acc (ps.drop q)=(CF (ps.drop q)).bind fun x=>if acc.length=40 then none else PP (acc++[x.1]) x.2:=by rw[Aa hq,R6]
theorem lF(ps:List Pc)(acc:List RC)(q:Nat)(hq:¬q<ps.length):PP acc (ps.drop q)=some acc:=by rw[AA (by omega)];rfl
def O1(w:World)(s:ByteArray)(e:Ending)(w':World):Prop:=
 (match (T s.size s.data.toList).bind (PP []) with
   |none=>e=.returned (.tuple #[.slice none 0 0,.bool false])
   |some cs=>∃v,e=.returned (.tuple #[v,.bool true])/\Ck w' w.heap.size v cs)/\Below w.heap.size w w'
theorem Rg{w w':World}{s:ByteArray}(h:(T s.size s.data.toList).bind (PP [])=none)(q:Below w.heap.size w w'):O1 w s (.returned (.tuple #[.slice none 0 0,.bool false])) w':=⟨by rw[h],q⟩
theorem Zz{w w':World}{s:ByteArray}{cs:List RC}{v:Value}(h:(T s.size s.data.toList).bind (PP [])=some cs)(hR:Ck w' w.heap.size v cs)(q:Below w.heap.size w w'):O1 w s (.returned (.tuple #[v,.bool true])) w':=⟨by rw[h];exact⟨v,rfl,hR⟩,q⟩
theorem Kr(w:World)(s:ByteArray)(hs:s.size<=3000):Calls prog 28 #[.string s] w fun e w'=>O1 w s e w':=by
 obtain⟨i1,I,H,W,h⟩:=Bc J4
 cases hT:T s.size s.data.toList with
 |none=>have N:=Ao hT;have t:=Ao (show(T s.size s.data.toList).bind (PP [])=none by rw[hT];rfl);clear hT;go_enter func28,ntmps28;go_wp2_with (go_at_call 61;refine(H6 _ s hs).mono ?_;rintro e w1 ⟨hx,y⟩;rcases hx with⟨ps,v,h1,-⟩|⟨-,rfl⟩;(rw[N.out]at h1;exact absurd h1 (by simp)));go_ret2;exact Rg t.out y
 |some ps=>
  have N:=Ao hT;have G:=Ao (show(T s.size s.data.toList).bind (PP [])=PP [] ps by rw[hT];rfl);clear hT;go_enter func28,ntmps28;go_wp2_with (go_at_call 61;refine(H6 _ s hs).mono ?_;rintro e w1 ⟨hx,y⟩;rcases hx with⟨q5,v,h1,rfl,o,q3⟩|⟨h1,-⟩;rotate_left;(rw[N.out]at h1;exact absurd h1 (by simp));rw[N.out]at h1;obtain rfl:=Be h1;clear h1;obtain⟨ao,cap,rfl⟩:=Au o);have O:Fj w1 w.heap.size ao cap ps:=o;have hn:ps.length<=3000:=by omega
  have n:=y.size;clear o
  go_loopw [6,7] (fun v iv wr=>∃(q:Nat) (acc:List RC),iv=.int .i64 q/\q<=ps.length/\acc.length<=40/\Hid (PP acc (ps.drop q)=PP [] ps)/\Ck wr w1.heap.size v acc/\Below w1.heap.size w1 wr) (fun _ iv _=>ps.length-(intOf iv).toNat)
  case atStart=>exact⟨0,[],by go_num,by omega,by simp,rfl,Ck.nil _ _,Ag _ _⟩
  case round=>
   obtain⟨q,acc,rfl,hq,ha,K,hR,V⟩:=hrel;obtain⟨vo,q2,rfl⟩:=hR.form;have Q:=O.below V;have M:=V.size;by_cases C:q<ps.length
   ·have Y:=Ao (nA ps acc q C)
    cases hcl:CF (ps.drop q) with
    |none=>have d:=Ao hcl;have t:=Ao (show(T s.size s.data.toList).bind (PP [])=none by rw[G.out,<-K.out,Y.out,hcl];rfl);clear hcl Y K G;go_wp2_with (go_at_call 62;refine(OL _ w.heap.size ao cap ps (by exact Q) hn q (by omega)).mono ?_;rintro e w2 ⟨cs,nx,ok,rfl,hS,j,m⟩;obtain⟨nm,tq,tl,b,pl,X,ng,bo,S,bcap,rfl⟩:=hS;rw[d.out]at m;simp only[]at m;subst m);go_ret2;have g:Below w.heap.size w w2:=(y.trans (V.mono n)).trans (j.mono (by omega));exact Rg t.out (g.alloc g.size _)
    |some x=>
     obtain⟨c,r⟩:=x;have d:=Ao hcl;have HL:=Ao (Kc _ _ _ hcl);by_cases p:acc.length=40
     ·have t:=Ao (show(T s.size s.data.toList).bind (PP [])=none by rw[G.out,<-K.out,Y.out,hcl,Option.bind_some,Ai p]);have z:(acc.length:Int)=40:=by omega
      have B:((acc.length:Int)==40)=true:=by rw[z];rfl
      clear hcl Y K G p z;go_wp2_with (go_at_call 62;refine(OL _ w.heap.size ao cap ps (by exact Q) hn q (by omega)).mono ?_;rintro e w2 ⟨cs,nx,ok,rfl,hS,j,m⟩;obtain⟨nm,tq,tl,b,pl,X,ng,bo,S,bcap,rfl⟩:=hS;rw[d.out]at m;obtain⟨rfl,-⟩:=m);go_ret2;have g:Below w.heap.size w w2:=(y.trans (V.mono n)).trans (j.mono (by omega));exact Rg t.out (g.alloc g.size _)
     ·have t:=Ao (show PP acc (ps.drop q)=PP (acc++[c]) r by rw[Y.out,hcl,Option.bind_some,Af p]);have z:¬(acc.length:Int)=40:=by omega
      have B:((acc.length:Int)==40)=false:=by simpa using z
      have q1:acc.length<40:=by omega
      clear hcl Y p;obtain⟨rows,ho,hl,hr⟩:=hR;go_wp2_with (first|(go_at_call 62;refine(OL _ w.heap.size ao cap ps (by exact Q) hn q (by omega)).mono ?_;rintro e w2 ⟨cs,nx,ok,rfl,hS,j,m⟩;obtain⟨nm,tq,tl,b,pl,X,ng,bo,S,bcap,rfl⟩:=hS;rw[d.out]at m;obtain⟨rfl,A,k,rfl,R,hk⟩:=m;have U:=Ao R;clear R;have Z:=Ah ho j)|(at_builtin;refine AF _ rfl _ _ 60 rfl w1.heap.size 71 i1 _ 6 88 underlying60 I H W h rfl (by decide) _ acc.length rows.flatten rfl ((Z.alloc _).alloc _) ⟨w2.heap.size+1,0,none⟩ 1 [.string nm,.slice tq tl b,.int .i64 pl,.int .i64 X,.bool ng,.slice bo S bcap] rfl rfl (Gu _ _ _ _) (by intro u hu;simp at hu;rcases hu with rfl|rfl|rfl|rfl|rfl|rfl<;>rfl) (by unfold maxLen;omega) (by omega) (by have:=j.size;simp;omega) ?_;intro g4 q0 w4 L P));have q4:=j.size;have h2:∀o2 o3,Below w2.heap.size w2 ((w2.alloc o2).alloc o3):=fun o2 o3=>((Ag _ w2).alloc (Ab _) o2).alloc (by simp) o3;have J:=Ck.more (w:=(w2.alloc _).alloc _) (w':=w4) (base:=w1.heap.size) (l:=acc) (c:=c) (fun i a cs h1 h3=>((hr i a cs h1 h3).below j).below (h2 _ _)) hl ((Z.alloc _).alloc _) ((A.mono M).below (h2 _ _)) L P;have E:Below w1.heap.size w1 w4:=((V.trans (j.mono M)).trans ((h2 _ _).mono (by omega))).grown P (by simp;omega) (A9 Z);have f:=HL.out;rw[U.out]at f;simp only[G1]at f;exact⟨⟨k,acc++[c],by go_num,hk,by simp;omega,by rw[<-K.out,t.out,U.out];rfl,J,E⟩,by simp[intOf];omega⟩
   ·have t:=Ao (show(T s.size s.data.toList).bind (PP [])=some acc by rw[G.out,<-K.out,lF ps acc q C]);go_wp2;go_ret2;exact Zz t.out (hR.mono n) (y.trans (V.mono n))
theorem kU(w:World)(s:ByteArray)(hs:s.size<=3000):Calls prog 63 #[.string s,.bool false] w fun e w'=>e=.returned (.bool (Bs s).ok)/\Below w.heap.size w w':=by
 have q:=Gc s
 cases hq:(T s.size s.data.toList).bind (PP []) with
 |none=>
  rw[hq]at q;simp only[]at q;have y:=Ao hq;have z:=Ao q;clear hq q;go_enter func63,ntmps63;go_wp2_with (go_at_call 28;refine(Kr _ s hs).mono ?_;rintro e w1 ⟨hx,j⟩;rw[y.out]at hx;simp only[]at hx;subst hx)
  go_ret
  rw[z.out];exact⟨rfl,j⟩
 |some cs=>
  rw[hq]at q;simp only[]at q;have y:=Ao hq;have z:=Ao q.1;clear hq q;go_enter func63,ntmps63;go_wp2_with (go_at_call 28;refine(Kr _ s hs).mono ?_;rintro e w1 ⟨hx,j⟩;rw[y.out]at hx;obtain⟨v,rfl,-⟩:=hx)
  go_ret
  rw[z.out];exact⟨rfl,j⟩
def Dl(w:World):Prop:=∀(k:Nat) (hk:k<B6.length),w.cell? ⟨0,k,none⟩=some (.string (bs B6[k]))
theorem Dl.below{w w':World}{n:Nat}(h:Dl w)(hb:Below n w w')(hn:0<n):Dl w':=fun k q=>by rw[hb.cell (p:=⟨0,k,none⟩) hn];exact h k q
theorem TP(e:B8)(h:e∈B6):e.length<=3:=by
 simp only[B6,Br,dR,lU]at h;rcases h with rfl|rfl|rfl|rfl|rfl|rfl|rfl|rfl|rfl<;>decide
theorem Uf(p:B8->Bool)(l:List B8)(k:Nat)(q:k<l.length):(l.take (k+1)).any p=((l.take k).any p||p l[k]):=by rw[Ad q,List.any_append,List.any_cons,List.any_nil,MO]
theorem Ug(p:B8->Bool)(l:List B8)(k:Nat)(h:(l.take k).any p=true):l.any p=true:=by rw[Ey]at h⊢;obtain⟨x,hx,q⟩:=h;exact⟨x,Dy hx,q⟩
theorem bY(a b:B8):bs a++bs b=bs (a++b):=by apply UE;simp[bs]
theorem dV(w:World)(l:Dl w)(Q:0<w.heap.size)(s:ByteArray)(hs:s.size<=2000):Calls prog 29 #[.string s,.bool false] w fun e w'=>e=.returned (.int .i64 (IF s.data.toList:Nat))/\Below w.heap.size w w':=by
 have g:s.data.toList.length=s.size:=by simp
 go_enter func29,ntmps29;go_wp2
 go_loopw [5] (fun n wr=>∃(i:Nat),n=.int .i64 i/\i<=s.size/\Hid (F8 s.data.toList (s.size-i) i=IF s.data.toList)/\Below w.heap.size w wr) (fun n _=>s.size-(intOf n).toNat)
 case atStart=>exact⟨0,by go_num,by omega,by unfold IF;rw[g];rfl,Ag _ _⟩
 case round=>
  obtain⟨i,rfl,hi,t,q⟩:=hrel;by_cases z:i<s.size
  ·have f:=Ao (show F8 s.data.toList (s.size-i) i=if Tf (s.data.toList.take (i+1))=true then F8 s.data.toList (s.size-(i+1)) (i+1) else i by
    rw[show s.size-i=(s.size-(i+1))+1 by omega,F8])
   go_wp2_with fail
   go_loopw [6,7] (fun ov x Z=>∃(k:Nat),x=.int .i64 k/\k<=9/\ov=.bool ((B6.take k).any fun e=>Oz (s.data.toList.take (i+1)++e))/\Below w.heap.size w Z) (fun _ x _=>9-(intOf x).toNat)
   case atStart=>exact⟨0,by go_num,by omega,rfl,q⟩
   case round=>
    clear q;obtain⟨k,rfl,hk,rfl,q⟩:=hrel;cases hok:(B6.take k).any fun e=>Oz (s.data.toList.take (i+1)++e)
    ·by_cases u:k<9
     ·have j:k<B6.length:=u;have hc:=l.below q Q k j;have m:=q.size;have v:s.extract 0 (i+1)++bs B6[k]=bs (s.data.toList.take (i+1)++B6[k]):=by have h1:=Eg s 0 (i+1);rw[B7,B4]at h1;rw[h1,bY]
      have q5:=TP B6[k] (Aj j);have c:(bs (s.data.toList.take (i+1)++B6[k])).size<=3000:=by have J:(bs (s.data.toList.take (i+1)++B6[k])).size=(s.data.toList.take (i+1)++B6[k]).length:=rfl;rw[J,Am,Dz,g];omega
      have b:=Ao v;have p:=fun Y=>kU Y _ c;have a:=Ao (Uf (fun e=>Oz (s.data.toList.take (i+1)++e)) B6 k j);have q3:(i:Int)+1<=(s.size:Int):=by omega
      have q2:(0:Int)<=(i:Int)+1:=by omega
      have q4:i+1<=s.size:=z;have q6:=IV i (by omega);have q1:¬9223372036854775807<i+1+(bs B6[k]).size:=by have q7:(bs B6[k]).size=B6[k].length:=rfl;omega
      have q0:(k:Int)<9:=by omega
      have h0:0<wr.heap.size:=by omega
      generalize B6[k]=ek at*;clear v;go_upto_region 8 with fail
      go_region_with (go_at_call 63;rw[b.out];refine(p _).mono ?_;rintro e w2 ⟨rfl,r⟩)
      all_goals go_wp2_with fail
      all_goals exact⟨⟨k+1,by go_num,by omega,by rw[a.out,hok,CJ];rfl,q.drew.trans (r.mono m)⟩,by simp[intOf];omega⟩
     ·have d:=Ao (show Tf (s.data.toList.take (i+1))=false by
       have o:B6.take k=B6:=C3 (by simp[B6];omega);rw[o]at hok
       exact hok)
      have y:=Ao (show IF s.data.toList=i by rw[<-t.out,f.out,d.out];simp);go_wp2_with fail
      go_ret
      rw[y.out];exact⟨rfl,q⟩
    ·have d:=Ao (show Tf (s.data.toList.take (i+1))=true from Ug _ _ _ hok);have y:=Ao (show F8 s.data.toList (s.size-(i+1)) (i+1)=IF s.data.toList by rw[<-t.out,f.out,d.out];simp);by_cases u:(k:Int)<9
     ·go_wp2_with fail;exact⟨⟨i+1,by go_num,z,y,q⟩,by simp[intOf];omega⟩
     ·go_wp2_with fail;exact⟨⟨i+1,by go_num,z,y,q⟩,by simp[intOf];omega⟩
  ·have y:=Ao (show IF s.data.toList=s.size by
    rw[<-t.out,show s.size-i=0 by omega,F8];omega)
   go_wp2
   go_ret
   rw[y.out];exact⟨rfl,q⟩
end
section
open Go.ChangeShapes Go.WideShapes Go.ChangeAt Go.ChangeMaps Go.WideMaps Go.WideElems Go.RowKit
theorem ZH:ownKnob prog.godebug=none:=by kernel_rfl
def bH:String:=(Rows.keptRow.laid.map fun x=>x.1).headD default
theorem mO:prog.globalNamed bH=some 0:=by kernel_rfl
theorem lY:(prog.globals[0]?).map (·.type)=some 128:=by kernel_rfl
theorem ON:prog.cellsOf 9=1:=by kernel_rfl
theorem gR{w:World}{b o:Nat}{v:Value}(h:w.cell? ⟨b,o,none⟩=some v):b<w.heap.size:=by apply Bj;intro hn;have q:w.heap[b]? =none:=Pf (by omega);simp[World.cell?,q]at h
theorem mT(s:ByteArray)(l:B8)(h:s.data.toList=l):s=bs l:=by subst h;apply UE;simp[bs]
theorem RE{W:World}(h:laidMetH prog Rows.keptRow.laid W):Dl W:=by
 rw[MakeChecks.laidMetH_plain _ _ _ (by kernel_rfl)]at h;obtain⟨ps,⟨g,t,cs,fuel,p,q,u,ht,Q,hd,_,_⟩,_,_⟩:=h;obtain rfl:=Be (mO.symm.trans u);obtain rfl:=Be (lY.symm.trans ht);obtain⟨xs,m,_,i,q0,hl,y⟩:=DataW.trod_array underlying128 hd;have c:B6.map (fun e=>DataW.lit (.string e))=xs.map (·.1):=DataW.agg.inj (Prod.mk.inj i).1;obtain⟨l⟩:=cs;intro k b;have v:k<9:=b;have hx:=y k v;rw[ON,Nat.mul_one,Ar (by omega)]at hx;obtain⟨s,d,r,_⟩:=DataW.trod_string underlying9 hx;have j:=Bl (fun z=>z[k]?) c;simp only[Ba,Ar b,Ar (show k<xs.length by omega),Option.map_some,Al]at j;rw[r]at j
 have n:s.data.toList=B6[k]:=by
  injection j with x
  injection x with f
  exact f.symm
 have hc:=World.var?_cell u Q k;have a:l[k]? =some (.string s):=by have:=Bl (fun z=>z[0]?) d;simpa[Io,Ll]using this
 have o:W.cell? ⟨0,k,none⟩=some (.string s):=by rw[hc];simpa using a
 exact o.trans (Bl (fun z=>some (Value.string z)) (mT s _ n))
end
end Go.Proofs.YtpbfiffgcgnidaaGreatDoor
