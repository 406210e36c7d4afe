import Derived.Test.YtpbfiffgcgnidaaGreatDoorYal
import Derived.Test.YtpbfiffgcgnidaaGreatDoorY14
import Derived.Test.YtpbfiffgcgnidaaGreatDoorY24
namespace Go.Proofs.YtpbfiffgcgnidaaGreatDoor
set_option maxRecDepth 100000
set_option maxHeartbeats 4000000
set_option linter.unusedSimpArgs false
open Go.Proofs.Tryz
section
attribute [local go_sem] AE As
open Go.RowKit Go.WideMaps Go.Maps
def dF(w:World)(s:ByteArray)(e:Ending)(w':World):Prop:=
 ∃(cs:List Value) (ok:Bool),e=.returned (.tuple #[.agg cs.toArray,.bool ok])/\YS cs/\Below w.heap.size w w'/\
  match B0 s with
  |none=>ok=false
  |some a=>ok=true/\BY w' w.heap.size a cs
theorem Jm{w w':World}{s:ByteArray}{cs:List Value}(q:Below w.heap.size w w')(h:B0 s=none)(hF:YS cs:=by exact⟨_,_,_,_,_,_,_,rfl⟩):dF w s (.returned (.tuple #[.agg cs.toArray,.bool false])) w':=⟨cs,false,rfl,hF,q,by rw[h]⟩
theorem U3{w w':World}{s:ByteArray}{cs:List Value}{a:RA}(j:Below w.heap.size w w')(h:B0 s=some a)(q:BY w' w.heap.size a cs):dF w s (.returned (.tuple #[.agg cs.toArray,.bool true])) w':=⟨cs,true,rfl,q.fa,j,by rw[h];exact⟨rfl,q⟩⟩
theorem LS(w:World)(base:Nat)(ao:Option Addr)(cap:Nat)(ps:List Pc)(q:Fj w base ao cap ps)(hn:ps.length<=3000):
 Calls prog 100 #[.slice ao ps.length cap,.int .i64 0] w fun e w'=>GZ w ps 0 e w':=MC w base ao cap ps q hn 0 (Cq _)
theorem fN{ps:List Pc}{k:Nat}(h:[]=ps.drop k)(hk:k<=ps.length):k=ps.length:=by have q:=Bl List.length h;simp at q;omega
theorem ZY{ps r:List Pc}{p:Pc}{k:Nat}(h:p::r=ps.drop k):k<ps.length:=by have q:=Bl List.length h;simp at q;omega
theorem gU{k n:Nat}(h:k=n):((k:Int)==(n:Int))=true:=by rw[h];simp
theorem cE{k n:Nat}(h:k<n):((k:Int)==(n:Int))=false:=by rw[Az];omega
theorem Jk(w:World)(s:ByteArray)(hs:s.size<=3000):Calls prog 73 #[.string s] w fun e w'=>dF w s e w':=by
 have y:=Aw.new w L3 69;have f:=Ac w (.cells L3.toArray 69);have d:=f.size
 cases hT:T s.size s.data.toList with
 |none=>
  have J:=Ao hT;have Y:=Ao (show B0 s=none by unfold B0;rw[hT];rfl);have B:=Ao (show BF (([]:List Pc).drop 0)=none from rfl);clear hT;go_enter func73,ntmps73;go_wp2_with (go_at_call 61;refine(H6 _ s hs).mono ?_;rintro e w1 ⟨hx,q⟩;rcases hx with⟨K,v,h1,-⟩|⟨-,rfl⟩;(rw[J.out]at h1;exact absurd h1 (by simp)));refine(LS _ 0 none _ [] (by exact Ak _ _ _ _) (by simp)).mono ?_;rintro e w2 ⟨cs,S,ok,rfl,hF,j,m⟩;obtain⟨nm,n,N,z,pl,P,M,rfl⟩:=hF;rw[B.out]at m;simp only[]at m;subst m;obtain⟨r0,r1,V,U,G⟩:=((y.below q).below j).c5;have X:=((y.below q).below j).frozen;have g:=((y.below q).below j).lt;go_wp2_with fail;have u:Below w.heap.size w w2:=(f.trans (q.mono d)).trans (j.mono (Ay d q.size));refine Aq (v:=.tuple #[.agg #[.string nm,.slice n N z,.int .i64 pl,.int .i64 P,.bool M],.bool false]) (by simp[results,results73,go_sem,r0,r1,V,U,G,g]) rfl ?_;refine Jm (cs:=[.string nm,.slice n N z,.int .i64 pl,.int .i64 P,.bool M]) ?_ Y.out;refine DU ?_ (by have:=u.size;simp;omega) _
  repeat (refine AQ ?_ (by simp only[];omega) _)
  exact u
 |some ps=>
  have J:=Ao hT
  cases hat:BF ps with
  |none=>
   have B:=Ao (show BF (ps.drop 0)=none from hat);have Y:=Ao (show B0 s=none by unfold B0;rw[hT];exact Mh hat);clear hT hat;go_enter func73,ntmps73;go_wp2_with (go_at_call 61;refine(H6 _ s hs).mono ?_;rintro e w1 ⟨hx,q⟩;rcases hx with⟨K,v,h1,rfl,b,R⟩|⟨h1,-⟩;rotate_left;(rw[J.out]at h1;exact absurd h1 (by simp));rw[J.out]at h1;obtain rfl:=Be h1;clear h1;obtain⟨ao,cap,rfl⟩:=Au b);refine(LS _ _ ao _ ps (by exact b) (by omega)).mono ?_;rintro e w2 ⟨cs,S,ok,rfl,hF,j,m⟩;obtain⟨nm,n,N,z,pl,P,M,rfl⟩:=hF;rw[B.out]at m;simp only[]at m;subst m;obtain⟨r0,r1,V,U,G⟩:=((y.below q).below j).c5;have X:=((y.below q).below j).frozen;have g:=((y.below q).below j).lt;go_wp2_with fail;have u:Below w.heap.size w w2:=(f.trans (q.mono d)).trans (j.mono (Ay d q.size));refine Aq (v:=.tuple #[.agg #[.string nm,.slice n N z,.int .i64 pl,.int .i64 P,.bool M],.bool false]) (by simp[results,results73,go_sem,r0,r1,V,U,G,g]) rfl ?_;refine Jm (cs:=[.string nm,.slice n N z,.int .i64 pl,.int .i64 P,.bool M]) ?_ Y.out;refine DU ?_ (by have:=u.size;simp;omega) _
   repeat (refine AQ ?_ (by simp only[];omega) _)
   exact u
  |some x=>
   obtain⟨a,r⟩:=x;have B:=Ao (show BF (ps.drop 0)=some (a,r) from hat);cases hng:a.neg
   ·have i:=Ao hng
    cases r with
    |nil=>
     have Y:=Ao (show B0 s=some a by unfold B0;rw[hT];exact NW hat hng);clear hT hat hng;go_enter func73,ntmps73;go_wp2_with (go_at_call 61;refine(H6 _ s hs).mono ?_;rintro e w1 ⟨hx,q⟩;rcases hx with⟨K,v,h1,rfl,b,R⟩|⟨h1,-⟩;rotate_left;(rw[J.out]at h1;exact absurd h1 (by simp));rw[J.out]at h1;obtain rfl:=Be h1;clear h1;obtain⟨ao,cap,rfl⟩:=Au b);refine(LS _ _ ao _ ps (by exact b) (by omega)).mono ?_;rintro e w2 ⟨cs,S,ok,rfl,hF,j,m⟩;clear hF;rw[B.out]at m;obtain⟨rfl,⟨tv,t,o⟩,k,rfl,c,E⟩:=m;rw[i.out]at t;subst t;obtain⟨n,z,rfl⟩:=Au o;have Z:=Ao c;clear c;have l:k=ps.length:=(fN Z.out E);have A:((k:Int)==(ps.length:Int))=true:=(gU l);clear l;obtain⟨r0,r1,V,U,G⟩:=((y.below q).below j).c5;have X:=((y.below q).below j).frozen;have g:=((y.below q).below j).lt;go_wp2_with fail;have u:Below w.heap.size w w2:=(f.trans (q.mono d)).trans (j.mono (Ay d q.size));refine Aq (v:=.tuple #[.agg #[.string a.w,.slice n a.ts.length z,.int .i64 (a.pl:Nat),.int .i64 (a.af:Nat),.bool false],.bool true]) (by simp[results,results73,go_sem,r0,r1,V,U,G,g]) rfl ?_;refine U3 (cs:=[.string a.w,.slice n a.ts.length z,.int .i64 (a.pl:Nat),.int .i64 (a.af:Nat),.bool false]) ?_ Y.out ⟨_,by rw[i.out],?_⟩
     ·refine DU ?_ (by have:=u.size;simp;omega) _
      repeat (refine AQ ?_ (by simp only[];omega) _)
      exact u
     ·have C:=BS o (base':=w.heap.size) (Ay d q.size);have Q:=Av C ((y.below q).below j) (by decide);exact(AJ (AJ (AJ (AJ (AJ C ⟨w.heap.size,0,none⟩ _ Q) ⟨w.heap.size,1,none⟩ _ Q) ⟨w.heap.size,2,none⟩ _ Q) ⟨w.heap.size,3,none⟩ _ Q) ⟨w.heap.size,4,none⟩ _ Q).alloc _
    |cons p r=>
     have Y:=Ao (show B0 s=none by unfold B0;rw[hT];exact MW hat);clear hT hat hng;go_enter func73,ntmps73;go_wp2_with (go_at_call 61;refine(H6 _ s hs).mono ?_;rintro e w1 ⟨hx,q⟩;rcases hx with⟨K,v,h1,rfl,b,R⟩|⟨h1,-⟩;rotate_left;(rw[J.out]at h1;exact absurd h1 (by simp));rw[J.out]at h1;obtain rfl:=Be h1;clear h1;obtain⟨ao,cap,rfl⟩:=Au b);refine(LS _ _ ao _ ps (by exact b) (by omega)).mono ?_;rintro e w2 ⟨cs,S,ok,rfl,hF,j,m⟩;clear hF;rw[B.out]at m;obtain⟨rfl,⟨tv,t,o⟩,k,rfl,c,E⟩:=m;rw[i.out]at t;subst t;obtain⟨n,z,rfl⟩:=Au o;have Z:=Ao c;clear c;have l:k<ps.length:=(ZY Z.out);have A:((k:Int)==(ps.length:Int))=false:=(cE l);clear l;obtain⟨r0,r1,V,U,G⟩:=((y.below q).below j).c5;have X:=((y.below q).below j).frozen;have g:=((y.below q).below j).lt;go_wp2_with fail;have u:Below w.heap.size w w2:=(f.trans (q.mono d)).trans (j.mono (Ay d q.size));refine Aq (v:=.tuple #[.agg #[.string a.w,.slice n a.ts.length z,.int .i64 (a.pl:Nat),.int .i64 (a.af:Nat),.bool false],.bool false]) (by simp[results,results73,go_sem,r0,r1,V,U,G,g]) rfl ?_;refine Jm (cs:=[.string a.w,.slice n a.ts.length z,.int .i64 (a.pl:Nat),.int .i64 (a.af:Nat),.bool false]) ?_ Y.out;refine DU ?_ (by have:=u.size;simp;omega) _
     repeat (refine AQ ?_ (by simp only[];omega) _)
     exact u
   ·have i:=Ao hng;have Y:=Ao (show B0 s=none by unfold B0;rw[hT];exact NX hat hng);clear hT hat hng;go_enter func73,ntmps73;go_wp2_with (go_at_call 61;refine(H6 _ s hs).mono ?_;rintro e w1 ⟨hx,q⟩;rcases hx with⟨K,v,h1,rfl,b,R⟩|⟨h1,-⟩;rotate_left;(rw[J.out]at h1;exact absurd h1 (by simp));rw[J.out]at h1;obtain rfl:=Be h1;clear h1;obtain⟨ao,cap,rfl⟩:=Au b);refine(LS _ _ ao _ ps (by exact b) (by omega)).mono ?_;rintro e w2 ⟨cs,S,ok,rfl,hF,j,m⟩;clear hF;rw[B.out]at m;obtain⟨rfl,⟨tv,t,o⟩,k,rfl,c,E⟩:=m;rw[i.out]at t;subst t;obtain⟨n,z,rfl⟩:=Au o;have Z:=Ao c;clear c;obtain⟨r0,r1,V,U,G⟩:=((y.below q).below j).c5;have X:=((y.below q).below j).frozen;have g:=((y.below q).below j).lt;go_wp2_with fail;have u:Below w.heap.size w w2:=(f.trans (q.mono d)).trans (j.mono (Ay d q.size));refine Aq (v:=.tuple #[.agg #[.string a.w,.slice n a.ts.length z,.int .i64 (a.pl:Nat),.int .i64 (a.af:Nat),.bool true],.bool false]) (by simp[results,results73,go_sem,r0,r1,V,U,G,g]) rfl ?_;refine Jm (cs:=[.string a.w,.slice n a.ts.length z,.int .i64 (a.pl:Nat),.int .i64 (a.af:Nat),.bool true]) ?_ Y.out;refine DU ?_ (by have:=u.size;simp;omega) _
    repeat (refine AQ ?_ (by simp only[];omega) _)
    exact u
theorem kT(w:World)(s:ByteArray)(hs:s.size<=3000):Calls prog 63 #[.string s,.bool true] w fun e w'=>e=.returned (.bool (U4 s s.data.toList))/\Below w.heap.size w w':=by
 have hq:=FO s
 cases ht:B0 s with
 |none=>
  rw[ht]at hq;simp only[]at hq;have k:=Ao ht;have y:=Ao hq;clear ht hq;go_enter func63,ntmps63;go_wp2_with (go_at_call 73;refine(Jk _ s hs).mono ?_;rintro e w1 ⟨cs,ok,rfl,hF,q,j⟩;obtain⟨nm,b,g,z,pl,v,u,rfl⟩:=hF;rw[k.out]at j;simp only[]at j;subst j)
  go_ret
  rw[y.out];exact⟨rfl,q.alloc q.size _⟩
 |some a=>
  rw[ht]at hq;have k:=Ao ht;have y:=Ao hq.1;clear ht hq;go_enter func63,ntmps63;go_wp2_with (go_at_call 73;refine(Jk _ s hs).mono ?_;rintro e w1 ⟨cs,ok,rfl,hF,q,j⟩;obtain⟨nm,b,g,z,pl,v,u,rfl⟩:=hF;rw[k.out]at j;obtain⟨rfl,-⟩:=j)
  go_ret
  rw[y.out];exact⟨rfl,q.alloc q.size _⟩
theorem dU(w:World)(l:Dl w)(Q:0<w.heap.size)(s:ByteArray)(hs:s.size<=2000):Calls prog 29 #[.string s,.bool true] w fun e w'=>e=.returned (.int .i64 (G4 s.data.toList:Nat))/\Below w.heap.size w w':=by
 have g:s.data.toList.length=s.size:=by simp
 go_enter func29,ntmps29;go_wp2
 go_loopw [5] (fun n wr=>∃(i:Nat),n=.int .i64 i/\i<=s.size/\Hid (E6 s.data.toList (s.size-i) i=G4 s.data.toList)/\Below w.heap.size w wr) (fun n _=>s.size-(intOf n).toNat)
 case atStart=>exact⟨0,by go_num,by omega,by unfold G4;rw[g];rfl,Ag _ _⟩
 case round=>
  obtain⟨i,rfl,hi,t,q⟩:=hrel;by_cases z:i<s.size
  ·have f:=Ao (show E6 s.data.toList (s.size-i) i=if Td (s.data.toList.take (i+1))=true then E6 s.data.toList (s.size-(i+1)) (i+1) else i by
    rw[show s.size-i=(s.size-(i+1))+1 by omega,E6])
   go_wp2_with fail
   go_loopw [6,7] (fun ov x Z=>∃(k:Nat),x=.int .i64 k/\k<=9/\ov=.bool ((B6.take k).any fun e=>Oy (s.data.toList.take (i+1)++e))/\Below w.heap.size w Z) (fun _ x _=>9-(intOf x).toNat)
   case atStart=>exact⟨0,by go_num,by omega,rfl,q⟩
   case round=>
    clear q;obtain⟨k,rfl,hk,rfl,q⟩:=hrel;cases hok:(B6.take k).any fun e=>Oy (s.data.toList.take (i+1)++e)
    ·by_cases u:k<9
     ·have j:k<B6.length:=u;have hc:=l.below q Q k j;have m:=q.size;have v:s.extract 0 (i+1)++bs B6[k]=bs (s.data.toList.take (i+1)++B6[k]):=by have h1:=Eg s 0 (i+1);rw[B7,B4]at h1;rw[h1,bY]
      have q5:=TP B6[k] (Aj j);have c:(bs (s.data.toList.take (i+1)++B6[k])).size<=3000:=by have J:(bs (s.data.toList.take (i+1)++B6[k])).size=(s.data.toList.take (i+1)++B6[k]).length:=rfl;rw[J,Am,Dz,g];omega
      have b:=Ao v;have p:=fun Y=>kT Y _ c;have a:=Ao (Uf (fun e=>Oy (s.data.toList.take (i+1)++e)) B6 k j);have q3:(i:Int)+1<=(s.size:Int):=by omega
      have q2:(0:Int)<=(i:Int)+1:=by omega
      have q4:i+1<=s.size:=z;have q6:=IV i (by omega);have q1:¬9223372036854775807<i+1+(bs B6[k]).size:=by have q7:(bs B6[k]).size=B6[k].length:=rfl;omega
      have q0:(k:Int)<9:=by omega
      have h0:0<wr.heap.size:=by omega
      generalize B6[k]=ek at*;clear v;go_upto_region 8 with fail
      go_region_with (go_at_call 63;rw[b.out];refine(p _).mono ?_;rintro e w2 ⟨rfl,r⟩)
      all_goals go_wp2_with fail
      all_goals exact⟨⟨k+1,by go_num,by omega,by rw[a.out,hok,CJ];rfl,q.drew.trans (r.mono m)⟩,by simp[intOf];omega⟩
     ·have d:=Ao (show Td (s.data.toList.take (i+1))=false by
       have o:B6.take k=B6:=C3 (by simp[B6];omega);rw[o]at hok
       exact hok)
      have y:=Ao (show G4 s.data.toList=i by rw[<-t.out,f.out,d.out];simp);go_wp2_with fail
      go_ret
      rw[y.out];exact⟨rfl,q⟩
    ·have d:=Ao (show Td (s.data.toList.take (i+1))=true from Ug _ _ _ hok);have y:=Ao (show E6 s.data.toList (s.size-(i+1)) (i+1)=G4 s.data.toList by rw[<-t.out,f.out,d.out];simp);by_cases u:(k:Int)<9
     ·go_wp2_with fail;exact⟨⟨i+1,by go_num,z,y,q⟩,by simp[intOf];omega⟩
     ·go_wp2_with fail;exact⟨⟨i+1,by go_num,z,y,q⟩,by simp[intOf];omega⟩
  ·have y:=Ao (show G4 s.data.toList=s.size by
    rw[<-t.out,show s.size-i=0 by omega,E6];omega)
   go_wp2
   go_ret
   rw[y.out];exact⟨rfl,q⟩
end
end Go.Proofs.YtpbfiffgcgnidaaGreatDoor
