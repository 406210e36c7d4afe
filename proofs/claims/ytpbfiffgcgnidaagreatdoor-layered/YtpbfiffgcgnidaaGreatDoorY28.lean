import Derived.Test.YtpbfiffgcgnidaaGreatDoorYal
import Derived.Test.YtpbfiffgcgnidaaGreatDoorY26
import Derived.Test.YtpbfiffgcgnidaaGreatDoorY27
namespace Go.Proofs.YtpbfiffgcgnidaaGreatDoor
set_option maxRecDepth 100000
set_option maxHeartbeats 4000000
set_option linter.unusedSimpArgs false
open Go.Proofs.Tryz
section
attribute [local go_sem] AE As
open Go.RowKit Go.WideMaps Go.Maps
def EV:List RT->Option Nat
 |[]=>none
 |t::r=>if t.var=true then some t.pl else EV r
theorem gK(ts:List RT)(k:Nat)(h:k<ts.length):EV (ts.drop k)=if ts[k].var=true then some ts[k].pl else EV (ts.drop (k+1)):=by rw[Aa h,EV]
def Lh(w:World)(o:Option Nat)(e:Ending)(w':World):Prop:=(match o with
 |none=>e=.returned (.tuple #[.bool true,.int .i64 0])
 |some p=>e=.returned (.tuple #[.bool false,.int .i64 (p:Nat)]))/\Below w.heap.size w w'
theorem H9(w:World)(base:Nat)(a:RA)(u:Option Addr)(q:Nat)(b:Bool)(s:w.ownsRow base 130 3 (.slice u a.ts.length q) a.ts.length (a.ts.flatMap RT.cells))(hn:a.ts.length<=100):
 Calls prog 41 #[.agg #[.string a.w,.slice u a.ts.length q,.int .i64 (a.pl:Nat),.int .i64 (a.af:Nat),.bool b]] w fun e w'=>Lh w (EV a.ts) e w':=by
 have p:=Aw.new w [.string a.w,.slice u a.ts.length q,.int .i64 (a.pl:Nat),.int .i64 (a.af:Nat),.bool b] 69;have r:=Ac w (.cells #[.string a.w,.slice u a.ts.length q,.int .i64 (a.pl:Nat),.int .i64 (a.af:Nat),.bool b] 69);go_enter func41,ntmps41;go_wp2_with fail
 go_loopw [4] (fun n wr=>∃(k:Nat),k<=a.ts.length/\n=.int .i64 k/\Hid (EV (a.ts.drop k)=EV a.ts)/\Aw wr w.heap.size [.string a.w,.slice u a.ts.length q,.int .i64 (a.pl:Nat),.int .i64 (a.af:Nat),.bool b] 69/\Below w.heap.size w wr) (fun n _=>a.ts.length-(intOf n).toNat)
 case atStart=>exact⟨0,by omega,rfl,rfl,p,r⟩
 case round=>
  clear p r;obtain⟨k,hk,rfl,y,hC,m⟩:=hrel;have c1:wr.cell? ⟨w.heap.size,1,none⟩=some (.slice u a.ts.length q):=hC.cell 1;have q0:=hC.lt;by_cases z:k<a.ts.length
  ·obtain⟨g,rfl,hg,d0,x,d2⟩:=FM (Ah s m) k z;have j:=Ao (gK a.ts k z);generalize a.ts[k]=t at*;cases v:t.var
   ·rw[v]at x;have d:=Ao (show EV (a.ts.drop (k+1))=EV a.ts by rw[<-y.out,j.out,v];rfl);clear v j y;go_wp2_with fail;exact⟨⟨k+1,z,by go_num,d,hC,m⟩,by simp[intOf];omega⟩
   ·rw[v]at x;have d:=Ao (show EV a.ts=some t.pl by rw[<-y.out,j.out,v];rfl);clear v j y;go_wp2_with fail
    go_quiet (fail)
    go_wp2_with fail;go_ret2;unfold Lh;rw[d.out];exact⟨rfl,Ff m _⟩
  ·have c:k=a.ts.length:=by omega
   have d:=Ao (show EV a.ts=none by rw[<-y.out,c,AR];rfl);clear c y;go_wp2_with fail;go_ret2;unfold Lh;rw[d.out];exact⟨rfl,m⟩
def Cn(cs:List RC)(s:ByteArray):Nat×Nat:=
 if 2000<s.size then(1,0)
 else match B0 s with
  |none=>(2,G4 s.data.toList)
  |some a=>if 0<=Cz (A2 cs) a.name/\Cz (A2 cs) a.name≠((a.ts.length:Nat):Int) then(3,a.pl) else(0,0)
def Hu(w:World)(cs:List RC)(s:ByteArray)(e:Ending)(w':World):Prop:=
 ∃c5:List Value,e=.returned (.tuple #[.agg c5.toArray,.int .i64 (Cn cs s).1,.int .i64 (Cn cs s).2])/\YS c5/\Below w.heap.size w w'/\((Cn cs s).1=0->∃a,B0 s=some a/\BY w' w.heap.size a c5)
theorem MG{w w':World}{cs:List RC}{s:ByteArray}{a b:Nat}(h:Cn cs s=(a,b))(z:a≠0)(j:Below w.heap.size w w'):Hu w cs s (.returned (.tuple #[.agg L3.toArray,.int .i64 (a:Nat),.int .i64 (b:Nat)])) w':=by refine⟨L3,by rw[h],⟨_,_,_,_,_,_,_,rfl⟩,j,fun q=>?_⟩;rw[h]at q;exact absurd q z
theorem Ud{w w':World}{cs:List RC}{s:ByteArray}{c5:List Value}{a:RA}(h:Cn cs s=(0,0))(hq:B0 s=some a)(q:BY w' w.heap.size a c5)(j:Below w.heap.size w w'):Hu w cs s (.returned (.tuple #[.agg c5.toArray,.int .i64 0,.int .i64 0])) w':=
 ⟨c5,by rw[h];rfl,q.fa,j,fun _=>⟨a,hq,q⟩⟩
theorem VW(w:World)(bb:Nat)(cs:List RC)(s:ByteArray)(hs:s.size<=maxLen)(h:2000<s.size):
 Calls prog 40 #[.pointer (some ⟨bb,0,none⟩),.string s] w fun e w'=>Hu w cs s e w':=by
 have j:=Ao (show Cn cs s=(1,0) by simp[Cn,h]);have q:=hs;unfold maxLen at q;have hq:(2000:Int)<(s.size:Int):=by omega
 have q0:=Aw.new w L3 69;go_enter func40,ntmps40;go_wp2;refine Aq (v:=.tuple #[.agg L3.toArray,.int .i64 1,.int .i64 0]) (by simp[results,results40,go_sem,L3]) rfl ?_;exact MG j.out (by decide) ((Ag _ w).alloc (Ab _) _)
theorem VX(w:World)(f:Dl w)(c:0<w.heap.size)(bb:Nat)(cs:List RC)(s:ByteArray)(hs:s.size<=2000)(hn:B0 s=none):
 Calls prog 40 #[.pointer (some ⟨bb,0,none⟩),.string s] w fun e w'=>Hu w cs s e w':=by
 have m:=Ao (show Cn cs s=(2,G4 s.data.toList) by unfold Cn;rw[Af (by omega),hn]);have n:=Ao hn;have hq:¬((2000:Int)<(s.size:Int)):=by omega
 have t:=Aw.new w L3 69;have z:=Ac w (.cells L3.toArray 69);have j:=z.size;have b:=f.below z c;clear hn;go_enter func40,ntmps40;go_wp2_with (go_at_call 73;refine(Jk _ s (by omega)).mono ?_;rintro e w1 ⟨c5,ok,rfl,hF,q,r⟩;obtain⟨nm,J,Q,g,pl,x,a,rfl⟩:=hF;rw[n.out]at r;simp only[]at r;subst r);have p:0<w1.heap.size:=AH c (Ay j q.size);have d:=b.below q (by simp);refine(dU _ (d.below (Ac w1 _) p) (by simp) s hs).mono ?_;rintro e w2 ⟨rfl,k⟩;have y:=Ac w1 (.cells #[.string nm,.slice J Q g,.int .i64 pl,.int .i64 x,.bool a] 69);have u:=((t.below q).below y).below k;obtain⟨r0,r1,o,i,l⟩:=u.c5;have fR:=u.frozen;go_wp2_with fail;refine Aq (v:=.tuple #[.agg L3.toArray,.int .i64 2,.int .i64 (G4 s.data.toList:Nat)]) (by simp[results,results40,go_sem,L3,r0,r1,o,i,l]) rfl ?_;refine MG m.out (by decide) ?_
 repeat (refine AQ ?_ (by simp only[];omega) _)
 exact(z.trans (q.mono j)).trans ((y.mono (Ay j q.size)).trans (k.mono (Ay (Ay j q.size) y.size)))
theorem Ck.drew{w:World}{base:Nat}{v:Value}{l:List RC}(h:Ck w base v l):Ck w.drew base v l:=h
theorem VZ(w:World)(base bb:Nat)(cs:List RC)(W:Cy w base bb cs)(hn:cs.length<=40)(hb:∀c∈cs,c.body.length<=4)(s:ByteArray)(hs:s.size<=2000)(a:RA)(hq:B0 s=some a):
 Calls prog 40 #[.pointer (some ⟨bb,0,none⟩),.string s] w fun e w'=>Hu w cs s e w':=by
 have z:=Ao (show Cn cs s=if 0<=Cz (A2 cs) a.name/\Cz (A2 cs) a.name≠((a.ts.length:Nat):Int) then(3,a.pl) else(0,0) by
  unfold Cn
  rw[Af (by omega),hq])
 have U:=Ao hq;have q4:¬((2000:Int)<(s.size:Int)):=by omega
 have Z:=Aw.new w L3 69;have g:=Ac w (.cells L3.toArray 69);have f:=g.size;obtain⟨v,I,B⟩:=W;obtain⟨ao,cap,rfl⟩:=B.form;have l:=fun E hx=>WO E base ao cap cs hx hn hb a.name;clear hq;go_enter func40,ntmps40;go_wp2_with (go_at_call 73;refine(Jk _ s (by omega)).mono ?_;rintro e w1 ⟨c5,ok,rfl,hF,y,L⟩;clear hF;rw[U.out]at L;obtain⟨rfl,tv,rfl,Y⟩:=L;obtain⟨t,q,rfl⟩:=Au Y);have V:w.heap.size<=w1.heap.size:=Ay f y.size;have Q:Below w.heap.size w w1:=g.trans (y.mono f);have k:=Ac w1 (.cells #[.string a.w,.slice t a.ts.length q,.int .i64 (a.pl:Nat),.int .i64 (a.af:Nat),.bool a.neg] 69);have r:=Aw.new w1 [.string a.w,.slice t a.ts.length q,.int .i64 (a.pl:Nat),.int .i64 (a.af:Nat),.bool a.neg] 69;have J:=((B.below g).below y).below k;have x:=((I.below g).below y).below k;have H:=x.cell 0;simp at H;have q5:=x.lt;have A:=r.cell 0;simp at A;have R:=(Z.below y).below k;have P:=Ah (BS Y (base':=w.heap.size) f) k;go_upto_region 7 with fail
 go_cut [10] from 26 to 45 (fun nv E=>nv=.int .i64 (Cz (A2 cs) a.name)/\Below (w1.alloc (.cells #[.string a.w,.slice t a.ts.length q,.int .i64 (a.pl:Nat),.int .i64 (a.af:Nat),.bool a.neg] 69)).heap.size (w1.alloc (.cells #[.string a.w,.slice t a.ts.length q,.int .i64 (a.pl:Nat),.int .i64 (a.af:Nat),.bool a.neg] 69)) E)
 case first=>
  go_region_with (go_at_call 31;refine(l _ (Ck.drew J)).mono ?_;rintro e w3 ⟨rfl,G⟩)
  all_goals go_wp2_with fail
  all_goals go_meet
  all_goals exact⟨rfl,(Ag _ _).drew.trans G⟩
 case rest=>
  obtain⟨K,u⟩:=hcut;obtain⟨n,i⟩:∃n,Hid (Cz (A2 cs) a.name=n):=⟨_,rfl⟩;rw[i.out]at K z;subst K;obtain⟨a0,a1,a2,a3,a4⟩:=(r.below u).c5;have b:=R.below u;obtain⟨r0,r1,N,X,S⟩:=b.c5;have fR:=b.frozen;have q3:=(r.below u).lt;have q0:=b.lt;have p:Below w.heap.size w wc:=Q.trans ((k.mono V).trans (u.mono (Ay V k.size)));have m:=Ah P u;have j:=Av m b (by decide);have M:w.heap.size≠w1.heap.size:=by have:=Z.below y|>.lt;omega
  have q1:w1.heap.size≠w.heap.size:=fun h=>M h.symm;clear H A x J B I l;by_cases O:0<=n
  ·by_cases d:n=((a.ts.length:Nat):Int)
   ·have o:=Ao (show Cn cs s=(0,0) by rw[z.out,Af (by omega)]);have C:(n != ((a.ts.length:Nat):Int))=false:=by rw[d];simp
    subst d;clear z i;go_wp2_with fail;refine Aq (v:=.tuple #[.agg #[.string a.w,.slice t a.ts.length q,.int .i64 (a.pl:Nat),.int .i64 (a.af:Nat),.bool a.neg],.int .i64 0,.int .i64 0]) (by simp[results,results40,go_sem,r0,r1,N,X,S]) rfl ?_;refine Ud (c5:=[.string a.w,.slice t a.ts.length q,.int .i64 (a.pl:Nat),.int .i64 (a.af:Nat),.bool a.neg]) o.out U.out ⟨_,rfl,?_⟩ ?_
    ·exact AJ (AJ (AJ (AJ (AJ m ⟨w.heap.size,0,none⟩ _ j) ⟨w.heap.size,1,none⟩ _ j) ⟨w.heap.size,2,none⟩ _ j) ⟨w.heap.size,3,none⟩ _ j) ⟨w.heap.size,4,none⟩ _ j
    ·repeat (refine AQ ?_ (by simp only[];omega) _)
     exact p
   ·have o:=Ao (show Cn cs s=(3,a.pl) by rw[z.out,Ai ⟨O,d⟩]);have C:(n != ((a.ts.length:Nat):Int))=true:=by simpa using d
    clear z;go_wp2_with fail;go_region
    all_goals go_wp2_with fail
    all_goals
     refine Aq (v:=.tuple #[.agg L3.toArray,.int .i64 3,.int .i64 (a.pl:Nat)]) (by simp[results,results40,go_sem,L3,r0,r1,N,X,S]) rfl ?_;refine MG o.out (by decide) ?_;refine DB ?_
     repeat (refine AQ ?_ (by simp only[];omega) _)
     exact p
  ·have o:=Ao (show Cn cs s=(0,0) by rw[z.out,Af (by omega)]);have q2:decide (0<=n)=false:=A5 O;clear z;go_wp2_with fail;refine Aq (v:=.tuple #[.agg #[.string a.w,.slice t a.ts.length q,.int .i64 (a.pl:Nat),.int .i64 (a.af:Nat),.bool a.neg],.int .i64 0,.int .i64 0]) (by simp[results,results40,go_sem,r0,r1,N,X,S]) rfl ?_;refine Ud (c5:=[.string a.w,.slice t a.ts.length q,.int .i64 (a.pl:Nat),.int .i64 (a.af:Nat),.bool a.neg]) o.out U.out ⟨_,rfl,?_⟩ ?_
   ·exact AJ (AJ (AJ (AJ (AJ m ⟨w.heap.size,0,none⟩ _ j) ⟨w.heap.size,1,none⟩ _ j) ⟨w.heap.size,2,none⟩ _ j) ⟨w.heap.size,3,none⟩ _ j) ⟨w.heap.size,4,none⟩ _ j
   ·repeat (refine AQ ?_ (by simp only[];omega) _)
    exact p
theorem FR(w:World)(q:Dl w)(z:0<w.heap.size)(base bb:Nat)(cs:List RC)(j:Cy w base bb cs)(hn:cs.length<=40)(hb:∀c∈cs,c.body.length<=4)(s:ByteArray)(hs:s.size<=maxLen):
 Calls prog 40 #[.pointer (some ⟨bb,0,none⟩),.string s] w fun e w'=>Hu w cs s e w':=by
 by_cases h:2000<s.size
 ·exact VW w bb cs s hs h
 ·cases hq:B0 s with
  |none=>exact VX w q z bb cs s (by omega) hq
  |some a=>exact VZ w base bb cs j hn hb s (by omega) a hq
end
end Go.Proofs.YtpbfiffgcgnidaaGreatDoor
