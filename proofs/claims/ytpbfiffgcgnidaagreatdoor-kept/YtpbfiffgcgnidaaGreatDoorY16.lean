import Derived.Test.YtpbfiffgcgnidaaGreatDoorYal
import Derived.Test.YtpbfiffgcgnidaaGreatDoorY14
import Derived.Test.YtpbfiffgcgnidaaGreatDoorY15
namespace Go.Proofs.YtpbfiffgcgnidaaGreatDoor
set_option maxRecDepth 100000
set_option maxHeartbeats 4000000
set_option linter.unusedSimpArgs false
open Go.Proofs.Tryz
section
attribute [local go_sem] AE As
open Go.RowKit Go.WideMaps Go.Maps
def Cy(w:World)(base bb:Nat)(cs:List RC):Prop:=∃v,Aw w bb [v] 76/\Ck w base v cs
def GC(w:World)(s:ByteArray)(e:Ending)(w':World):Prop:=
 (if(Ir s).1=0 then ∃bb cs,(T s.size s.data.toList).bind (PP [])=some cs/\e=.returned (.tuple #[.pointer (some ⟨bb,0,none⟩),.int .i64 0,.int .i64 0])/\w.heap.size<=bb/\Cy w' w.heap.size bb cs
   else e=.returned (.tuple #[.pointer none,.int .i64 (Ir s).1,.int .i64 (Ir s).2]))/\Below w.heap.size w w'
theorem Ff{b:Nat}{w w':World}(h:Below b w w')(n:Nat):Below b w (w'.drewN n):=⟨h.os,h.tape,h.output,h.size,h.block⟩
theorem Ho{w w':World}{s:ByteArray}{a b:Nat}(h:Ir s=(a,b))(j:a≠0)(q:Below w.heap.size w w'):GC w s (.returned (.tuple #[.pointer none,.int .i64 (a:Nat),.int .i64 (b:Nat)])) w':=by unfold GC;rw[h,Af j];exact⟨rfl,q⟩
theorem SZ(s:ByteArray)(cs:List RC)(h:(T s.size s.data.toList).bind (PP [])=some cs):cs.length<=40/\(∀c∈cs,c.body.length<=4)/\∀c∈cs,∀a∈c.head::c.body,a.ts.length<=3:=by
 have y:=Gc s;rw[h]at y;obtain⟨j,q⟩:=Iu s;rw[y.2]at j q;refine⟨by simpa using j,fun c hc=>?_,fun c hc a k=>?_⟩
 ·have:=(q c.d (Cl hc)).lits;simpa[RC.d]using this
 ·have z:=(q c.d (Cl hc)).words;rcases List.mem_cons.1 k with rfl|hb
  ·have:=(z (c.head.name,c.head.ts.map RT.s) (by simp[Bd.atoms,RC.d])).2.1;simpa using this
  ·have:=(z (a.name,a.ts.map RT.s) (by
    simp only[Bd.atoms,RC.d,C6,Br,C4]
    exact .inr ⟨a,hb,rfl⟩)).2.1
   simpa using this
theorem Pt(all l:List RA)(i:Nat)(h:i<l.length):Dr all (l.drop i)=if Cz all l[i].name=((l[i].ts.length:Nat):Int) then Dr all (l.drop (i+1)) else some l[i].pl:=by rw[Aa h,Dr]
theorem Q7(l:List RC)(i:Nat)(h:i<l.length):El (l.drop i)=(D2 l[i]).or (El (l.drop (i+1))):=by rw[Aa h,El]
theorem SQ(cs l:List RC)(i:Nat)(h:i<l.length):DY cs (l.drop i)=(Fv cs l[i] l[i].body).or (DY cs (l.drop (i+1))):=by rw[Aa h,DY]
theorem Q8(cs:List RC)(c:RC)(l:List RA)(k:Nat)(h:k<l.length):Fv cs c (l.drop k)=if(l[k].neg&&BZ (D8 (cs.map RC.d) l[k].name) c.head.name)=true then some l[k].af else Fv cs c (l.drop (k+1)):=by rw[Aa h,Fv]
theorem U0(w:World)(s:ByteArray)(hs:s.size<=maxLen)(h:2000<s.size):Calls prog 13 #[.string s] w fun e w'=>GC w s e w':=by
 have j:=Ao (show Ir s=(1,0) by simp[Ir,h]);have q:=hs;unfold maxLen at q;have hq:(2000:Int)<(s.size:Int):=by omega
 go_enter func13,ntmps13;go_wp2
 go_ret3
 exact Ho j.out (by decide) (Ag _ _)
theorem U1(w:World)(k:Dl w)(v:0<w.heap.size)(s:ByteArray)(h:s.size<=2000)(hn:(T s.size s.data.toList).bind (PP [])=none):Calls prog 13 #[.string s] w fun e w'=>GC w s e w':=by
 have z:=Ao (show Ir s=(2,IF s.data.toList) by unfold Ir;rw[Af (by omega),hn]);have y:=Ao hn;clear hn;have hq:¬((2000:Int)<(s.size:Int)):=by omega
 go_enter func13,ntmps13;go_wp2_with (first|(go_at_call 28;refine(Kr _ s (by omega)).mono ?_;rintro e w1 ⟨hx,q⟩;rw[y.out]at hx;simp only[]at hx;subst hx)|(go_at_call 29;refine(dV _ (k.below q v) (by have:=q.size;omega) s h).mono ?_;rintro e w2 ⟨rfl,j⟩))
 go_ret3
 exact Ho z.out (by decide) (q.trans (j.mono q.size))
theorem UZ(w:World)(s:ByteArray)(h:s.size<=2000)(cs:List RC)(P:(T s.size s.data.toList).bind (PP [])=some cs):Calls prog 13 #[.string s] w fun e w'=>GC w s e w':=by
 obtain⟨hn,hb,ht⟩:=SZ s cs P;have q3:=Ao P
 have HE:=Ao (show Ir s=match Dr (A2 cs) (A2 cs) with
  |some p=>(3,p)
  |none=>match El cs with
   |some p=>(4,p)
   |none=>match DY cs cs with
    |some p=>(5,p)
    |none=>(0,0) by
  unfold Ir;rw[Af (by omega),P]
  rfl)
 have j0:=GA cs hb;have S:=fun wx base ao cap hL nm=>WO wx base ao cap cs hL hn hb nm;obtain⟨all,q2⟩:∃all,Hid (all=A2 cs):=⟨_,rfl⟩;rw[<-q2.out]at HE j0 S;clear P;have hq:¬((2000:Int)<(s.size:Int)):=by omega
 go_enter func13,ntmps13;go_wp2_with (first|(go_at_call 28;refine(Kr _ s (by omega)).mono ?_;rintro e w1 ⟨hx,I⟩;rw[q3.out]at hx;obtain⟨v,rfl,R⟩:=hx;obtain⟨ao,cap,rfl⟩:=R.form)|(go_at_call 30;refine(LP _ w.heap.size ao cap cs (by exact R) hn hb).mono ?_;rintro e w2 ⟨v2,rfl,L,B⟩;rw[<-q2.out]at L;obtain⟨go,z9,rfl⟩:=L.form));have z8:=I.size;have y1:=B.size;have x:Below w.heap.size w w2:=I.trans (B.mono z8);have l:=R.below B;clear R I B
 go_loopw [9] (fun Y wr=>∃(i:Nat),Y=.int .i64 i/\i<=all.length/\Hid (Dr all (all.drop i)=Dr all all)/\Below w2.heap.size w2 wr) (fun Y _=>all.length-(intOf Y).toNat)
 case atStart=>exact⟨0,by go_num,by omega,rfl,Ag _ _⟩
 case round=>
  obtain⟨i,rfl,hi,r,q⟩:=hrel;by_cases q0:i<all.length
  ·obtain⟨g,tv,rfl,X,b0,b1,b2,b3,b4,H⟩:=Gw (L.below q) rfl i q0;have y:=Ao (Pt all all i q0);generalize all[i]=a at*;obtain⟨tq,j4,rfl⟩:=Au H;unfold RA.w at b0;have j7:=Ao b2;clear b2 b3 b4;by_cases J:Cz all a.name=((a.ts.length:Nat):Int)
   ·have d:=Ao (show Dr all (all.drop (i+1))=Dr all all by rw[<-r.out,y.out,Ai J]);have j9:=Ao J;clear J y r;go_wp2_with (go_at_call 31;refine(S _ w.heap.size ao cap (l.below q) a.name).mono ?_;rintro e w3 ⟨o,z⟩;rw[j9.out]at o;subst o;rw[<-z.cell (p:=⟨g,i*5+1,none⟩) X]at b1);exact⟨⟨i+1,by go_num,q0,d,q.trans (z.mono q.size)⟩,by simp[intOf];omega⟩
   ·have d:=Ao (show Ir s=(3,a.pl) by rw[HE.out,<-r.out,y.out,Af J]);obtain⟨n,q5⟩:∃n,Hid (Cz all a.name=n):=⟨_,rfl⟩;rw[q5.out]at J;have y3:(n != ((a.ts.length:Nat):Int))=true:=by simpa using J
    clear y r;go_wp2_with (go_at_call 31;refine(S _ w.heap.size ao cap (l.below q) a.name).mono ?_;rintro e w3 ⟨o,z⟩;rw[q5.out]at o;subst o;have b2:=j7.out;rw[<-z.cell (p:=⟨g,i*5+1,none⟩) X]at b1;rw[<-z.cell (p:=⟨g,i*5+2,none⟩) X]at b2)
    go_quiet (fail)
    go_wp2_with fail
    go_ret3
    exact Ho d.out (by decide) (Ff (x.trans ((q.trans (z.mono q.size)).mono x.size)) _)
  ·have q7:i=all.length:=by omega
   have U:=Ao (show Dr all all=none by rw[<-r.out,q7,AR];rfl);clear q7 r;go_wp2_with fail
   go_loopw [11] (fun Y wq=>∃(j:Nat),Y=.int .i64 j/\j<=cs.length/\Hid (El (cs.drop j)=El cs)/\Below w2.heap.size w2 wq) (fun Y _=>cs.length-(intOf Y).toNat)
   case atStart=>exact⟨0,by go_num,by omega,rfl,q⟩
   case round=>
    clear q;obtain⟨j,rfl,hj,r,q⟩:=hrel;have q6:=l.below q;by_cases Z:j<cs.length
    ·obtain⟨g,tv,bo,bcap,rfl,X,b0,b1,b2,b3,b4,b5,H,hR⟩:=DZ q6 rfl j Z;have y:=Ao (Q7 cs j Z);have W:=hb cs[j] (Aj Z);have j3:=ht cs[j] (Aj Z);generalize cs[j]=c at*;obtain⟨tq,j4,rfl⟩:=Au H
     cases Q:D2 c with
     |none=>have d:=Ao (show El (cs.drop (j+1))=El cs by rw[<-r.out,y.out,Q];rfl);have E:=Ao (show kG (D2 c)= -1 by rw[Q];rfl);clear Q r y;go_wp2_with (go_at_call 32;refine(WB _ w.heap.size c _ bo bcap (by exact H) (by exact hR) (by have:=q.size;omega) W j3).mono ?_;rintro e w3 ⟨o,z⟩;rw[E.out]at o;subst o);exact⟨⟨j+1,by go_num,Z,d,q.trans (z.mono q.size)⟩,by simp[intOf];omega⟩
     |some p=>
      have d:=Ao (show Ir s=(4,p) by rw[HE.out,U.out];simp only[];rw[<-r.out,y.out,Q];rfl);have E:=Ao (show kG (D2 c)=(p:Nat) by rw[Q];rfl);clear Q r y;go_wp2_with (go_at_call 32;refine(WB _ w.heap.size c _ bo bcap (by exact H) (by exact hR) (by have:=q.size;omega) W j3).mono ?_;rintro e w3 ⟨o,z⟩;rw[E.out]at o;subst o)
      go_ret3
      exact Ho d.out (by decide) (x.trans ((q.trans (z.mono q.size)).mono x.size))
    ·have q8:j=cs.length:=by omega
     have A:=Ao (show El cs=none by rw[<-r.out,q8,AR];rfl);clear q8 r q6;go_wp2_with fail
     go_loopw [13] (fun Y wq=>∃(m:Nat),Y=.int .i64 m/\m<=cs.length/\Hid (DY cs (cs.drop m)=DY cs cs)/\Below w2.heap.size w2 wq) (fun Y _=>cs.length-(intOf Y).toNat)
     case atStart=>exact⟨0,by go_num,by omega,rfl,q⟩
     case round=>
      clear q;obtain⟨m,rfl,hm,r,q⟩:=hrel;by_cases M:m<cs.length
      ·obtain⟨g,tv,bo,bcap,rfl,X,b0,b1,b2,b3,b4,b5,H,hR⟩:=DZ l rfl m M;have y:=Ao (SQ cs cs m M);have W:=hb cs[m] (Aj M);generalize cs[m]=c at*;have j6:=Ao b0;have j8:=Ao b5;rw[<-q.cell (p:=⟨g,m*6+5,none⟩) X]at b5;clear b0 b1 b2 b3 b4 H;go_wp2_with fail
       go_loopw [14] (fun kv wq=>∃(k:Nat),kv=.int .i64 k/\k<=c.body.length/\Hid ((Fv cs c (c.body.drop k)).or (DY cs (cs.drop (m+1)))=DY cs cs)/\Below w2.heap.size w2 wq) (fun kv _=>c.body.length-(intOf kv).toNat)
       case atStart=>exact⟨0,by go_num,by omega,by rw[<-r.out,y.out];rfl,q⟩
       case round=>
        clear q b5;obtain⟨k,rfl,hk,V,q⟩:=hrel;have z7:=q.size;have b5:=j8.out;rw[<-q.cell (p:=⟨g,m*6+5,none⟩) X]at b5;have y2:g<wr.heap.size:=by omega
        by_cases C:k<c.body.length
        ·obtain⟨g2,y6,rfl,z4,d0,d1,d2,d3,d4,z2⟩:=H4 (hR.below q) rfl k C;have t:=Ao (Q8 cs c c.body k C);generalize c.body[k]=b at*;obtain⟨q1,f,rfl⟩:=Au z2;have y0:g2<wr.heap.size:=z4;unfold RA.w at d0;cases hng:b.neg
         ·rw[hng]at d4;have d:=Ao (show(Fv cs c (c.body.drop (k+1))).or (DY cs (cs.drop (m+1)))=DY cs cs by rw[<-V.out,t.out,hng];simp);clear hng t V;go_wp2_with fail;exact⟨⟨k+1,by go_num,C,d,q.alloc (by omega) _⟩,by simp[intOf];omega⟩
         ·rw[hng]at d4;have q4:=Ao hng;have z5:=(l.below q).below (Ac wr (.cells #[.string (bs b.name),.slice q1 b.ts.length f,.int .i64 (b.pl:Nat),.int .i64 (b.af:Nat),.bool true] 69));have z3:=Aw.new wr [.string (bs b.name),.slice q1 b.ts.length f,.int .i64 (b.pl:Nat),.int .i64 (b.af:Nat),.bool true] 69;have z0:=Ac wr (.cells #[.string (bs b.name),.slice q1 b.ts.length f,.int .i64 (b.pl:Nat),.int .i64 (b.af:Nat),.bool true] 69);clear hng;go_wp2_with (go_at_call 33;refine(gV _ w.heap.size _ cap cs (by exact z5) hn hb b.name).mono ?_;rintro e w3 ⟨xs,v3,rfl,j2,y5,z1,z⟩;obtain⟨xo,j5,rfl⟩:=Au j2;have u:Below w2.heap.size w2 w3:=(q.trans (z0.mono z7)).trans (z.mono (by simp;omega));have b0:=j6.out;rw[<-u.cell (p:=⟨g,m*6,none⟩) X]at b0;have O:=Ao (Vd cs b.name xs z1 c.head.name);unfold RA.w at b0);go_wp2_with (go_at_call 34;refine(Om _ _ xo j5 xs (by exact j2) (by omega) c.head.name).mono ?_;rintro e wx ⟨o,y4⟩;subst wx;obtain⟨K,G⟩:∃K,Hid (BZ xs c.head.name=K):=⟨_,rfl⟩;rw[G.out]at o;subst o);have hq:=D4 b.name c.head.name;obtain⟨e0,e1,e2,e3,e4⟩:=(z3.below z).c5;have N:Below w.heap.size w w3:=x.trans (u.mono x.size);cases K
          ·cases heq:decide (b.name=c.head.name)
           ·rw[heq]at hq;have d:=Ao (show(Fv cs c (c.body.drop (k+1))).or (DY cs (cs.drop (m+1)))=DY cs cs by rw[<-V.out,t.out,<-O.out,G.out,heq];simp);clear heq V t
            go_quiet (fail)
            go_wp2_with fail;exact⟨⟨k+1,by go_num,C,d,Ff u _⟩,by simp[intOf];omega⟩
           ·rw[heq]at hq;have d:=Ao (show Ir s=(5,b.af) by rw[HE.out,U.out];simp only[];rw[A.out];simp only[];rw[<-V.out,t.out,<-O.out,q4.out,G.out,heq];rfl);clear heq V t
            go_quiet (fail)
            go_wp2_with fail
            go_quiet (fail)
            go_wp2_with fail
            go_ret3
            exact Ho d.out (by decide) (Ff (Ff N _) _)
          ·have d:=Ao (show Ir s=(5,b.af) by rw[HE.out,U.out];simp only[];rw[A.out];simp only[];rw[<-V.out,t.out,<-O.out,q4.out,G.out];rfl);clear V t
           go_quiet (fail)
           go_wp2_with fail
           go_quiet (fail)
           go_wp2_with fail
           go_ret3
           exact Ho d.out (by decide) (Ff (Ff N _) _)
        ·have q9:k=c.body.length:=by omega
         have d:=Ao (show DY cs (cs.drop (m+1))=DY cs cs by rw[<-V.out,q9,AR];rfl);clear q9 V;go_wp2_with fail;exact⟨⟨m+1,by go_num,M,d,q⟩,by simp[intOf];omega⟩
      ·have j1:m=cs.length:=by omega
       have d:=Ao (show Ir s=(0,0) by rw[HE.out,U.out];simp only[];rw[A.out];simp only[];rw[<-r.out,j1,AR];rfl);clear j1 r;go_wp2_with fail
       go_ret3
       have hz:=q.size;have u:Below w.heap.size w wr:=x.trans (q.mono x.size);unfold GC;rw[d.out];exact⟨⟨wr.heap.size,cs,q3.out,rfl,u.size,_,Aw.new wr [.slice ao cs.length cap] 76,(l.below q).below (Ac wr _)⟩,u.alloc u.size _⟩
theorem Ww(w:World)(q:Dl w)(j:0<w.heap.size)(s:ByteArray)(hs:s.size<=maxLen):Calls prog 13 #[.string s] w fun e w'=>GC w s e w':=by
 by_cases h:2000<s.size
 ·exact U0 w s hs h
 ·cases hq:(T s.size s.data.toList).bind (PP []) with
  |none=>exact U1 w q j s (by omega) hq
  |some cs=>exact UZ w s (by omega) cs hq
theorem aE:(prog.info? 44).map (fun i=>(i.zero,i.size,i.bytes))=some (some (.agg #[.pointer none,.pointer none]),2,16):=by kernel_rfl
end
end Go.Proofs.YtpbfiffgcgnidaaGreatDoor
