import Derived.Test.YtpbfiffgcgnidaaGreatDoorYal
import Derived.Test.YtpbfiffgcgnidaaGreatDoorY13
namespace Go.Proofs.YtpbfiffgcgnidaaGreatDoor
set_option maxRecDepth 100000
set_option maxHeartbeats 4000000
set_option linter.unusedSimpArgs false
open Go.Proofs.Tryz
section
attribute [local go_sem] AE As
open Go.RowKit Go.WideMaps Go.Maps
def lB:Value->Nat
 |.bool true=>1
 |_=>0
def Gz(l:List RC):List B8:=l.flatMap fun c=>c.body.map fun b=>b.name
theorem PH(l:List RC)(hb:∀c∈l,c.body.length<=4):(Gz l).length<=4*l.length:=by
 induction l with
 |nil=>simp[Gz]
 |cons c l q=>have h1:=hb c (by simp);have h2:=q (fun x hx=>hb x (by simp[hx]));unfold Gz at*;simp only[Cg,Am,AK,List.length_cons];omega
structure dK(l:List RC)(p:B8)(xs:List B8):Prop where
 nodup:xs.Nodup
 sub:∀x∈xs,x∈Gz l
 least:∀P:B8->Prop,(∀c∈l,(c.head.name=p\/P c.head.name)->∀b∈c.body,P b.name)->∀x∈xs,P x
theorem dK.nil(l:List RC)(p:B8):dK l p []:=⟨by simp,by simp,by simp⟩
theorem dK.len{l:List RC}{p:B8}{xs:List B8}(h:dK l p xs):xs.length<=(Gz l).length:=h.nodup.length_le_of_subset h.sub
theorem dK.more{l:List RC}{p:B8}{xs:List B8}(h:dK l p xs){c:RC}(hc:c∈l){b:RA}(hb:b∈c.body)(z:c.head.name=p\/c.head.name∈xs)(hn:BZ xs b.name=false):dK l p (xs++[b.name]):=by
 have hx:b.name∉xs:=by simpa[BZ]using hn
 refine⟨?_,?_,?_⟩
 ·rw[L7];exact⟨h.nodup,by simp,by intro a v b' j;simp at j;subst j;intro e;exact hx (e▸v)⟩
 ·intro x q;rw[Bi,A7]at q;rcases q with y|rfl
  ·exact h.sub x y
  ·unfold Gz;rw[C5];exact⟨c,hc,List.mem_map.2 ⟨b,hb,rfl⟩⟩
 ·intro P k x q;rw[Bi,A7]at q;rcases q with y|rfl
  ·exact h.least P k x y
  ·refine k c hc ?_ b hb;rcases z with z|z
   ·exact .inl z
   ·exact .inr (h.least P k _ z)
def IE(p:B8)(xs:List B8)(c:RC)(k:Nat):Prop:=(c.head.name=p\/c.head.name∈xs)->∀b∈c.body.take k,b.name∈xs
theorem IE.step{p:B8}{xs:List B8}{c:RC}{k:Nat}(h:IE p xs c k)(j:k<c.body.length)(hs:(c.head.name=p\/c.head.name∈xs)->c.body[k].name∈xs):IE p xs c (k+1):=by
 intro q b hb;rw[Ad j,Bi,A7]at hb;rcases hb with hb|rfl
 ·exact h q b hb
 ·exact hs q
theorem gV(w:World)(base:Nat)(ao:Option Addr)(cap:Nat)(l:List RC)(hL:Ck w base (.slice ao l.length cap) l)(hn:l.length<=40)(hb:∀c∈l,c.body.length<=4)(p:B8):
 Calls prog 33 #[.slice ao l.length cap,.string (bs p)] w fun e w'=>∃xs v,e=.returned v/\w'.ownsRow w.heap.size 9 1 v xs.length (xs.map fun x=>.string (bs x))/\xs.length<=160/\lI l p xs/\Below w.heap.size w w':=by
 obtain⟨i1,L,q0,q1,q2⟩:=Bc Hk;have hU:=PH l hb;go_enter func33,ntmps33;go_wp2
 go_loopw [5,6] (fun ov C wr=>∃(xs:List B8) (z:Bool),C=.bool z/\wr.ownsRow w.heap.size 9 1 ov xs.length (xs.map fun x=>.string (bs x))/\Hid (dK l p xs)/\Hid (z=false->∀c∈l,IE p xs c c.body.length)/\Below w.heap.size w wr) (fun ov C _=>((Gz l).length-Zl ov)*2+lB C)
 case atStart=>exact⟨[],true,rfl,Ak _ _ _ _,dK.nil l p,by intro h;simp at h,Ag _ _⟩
 case round=>
  obtain⟨Q,z,rfl,j,HD,P,U⟩:=hrel;cases z
  ·have q5:Hid (lI l p Q):=by refine⟨?_,HD.out.least⟩;intro c hc hf b X;refine P.out rfl c hc hf b ?_;rw[AL];exact X
   have Y:=HD.out.len;go_wp2
   go_ret
   exact⟨Q,_,rfl,j,by omega,q5.out,U⟩
  ·have q9:=HD.out.len;clear P;obtain⟨oo,j2,rfl⟩:=Au j;go_wp2_with fail
   go_loopw [5,6,7] (fun ov C iv wr=>∃(i:Nat) (xs:List B8) (z:Bool),i<=l.length/\iv=.int .i64 i/\C=.bool z/\wr.ownsRow w.heap.size 9 1 ov xs.length (xs.map fun x=>.string (bs x))/\Hid (dK l p xs)/\Q.length<=xs.length/\(z=true->Q.length<xs.length)/\Hid (z=false->∀c∈l.take i,IE p xs c c.body.length)/\Below w.heap.size w wr) (fun _ _ iv _=>l.length-(intOf iv).toNat)
   case atStart=>exact⟨0,Q,false,by omega,rfl,rfl,j,HD,Ab _,by simp,by intro _ c hc;simp at hc,U⟩
   case round=>
    clear j HD U;obtain⟨i,xs,z,hi,rfl,rfl,j,HD,o,n,P,U⟩:=hrel;have Y:=HD.out.len;obtain⟨G,s,rfl⟩:=Au j;by_cases V:i<l.length
    ·obtain⟨g,tv,bo,bcap,rfl,hg,b0,b1,b2,b3,b4,b5,hT,hR⟩:=DZ hL rfl i V;have E:l[i]∈l:=Aj V;have j3:=hb l[i] E;have q6:=Ao (show l.take (i+1)=l.take i++[l[i]] from Ad V);generalize l[i]=c at*;have q3:=Ao b0;have q4:=Ao b5;rw[<-U.cell (p:=⟨g,i*6+5,none⟩) hg]at b5;clear b0 b1 b2 b3 b4 hT;go_wp2_with fail
     go_loopw [5,6,8] (fun ov C kv wr=>∃(k:Nat) (xs:List B8) (z:Bool),k<=c.body.length/\kv=.int .i64 k/\C=.bool z/\wr.ownsRow w.heap.size 9 1 ov xs.length (xs.map fun x=>.string (bs x))/\Hid (dK l p xs)/\Q.length<=xs.length/\(z=true->Q.length<xs.length)/\Hid (z=false->(∀c∈l.take i,IE p xs c c.body.length)/\IE p xs c k)/\Below w.heap.size w wr) (fun _ _ kv _=>c.body.length-(intOf kv).toNat)
     case atStart=>exact⟨0,xs,z,by omega,rfl,rfl,j,HD,o,n,fun h=>⟨P.out h,by intro _ b X;simp at X⟩,U⟩
     case round=>
      clear j HD U P o n Y b5;obtain⟨k,xs,z,hk,rfl,rfl,j,f,o,n,m,d⟩:=hrel;have Y:=f.out.len;have j1:=d.size;obtain⟨G,s,rfl⟩:=Au j;have b5:=q4.out;rw[<-d.cell (p:=⟨g,i*6+5,none⟩) hg]at b5;by_cases t:k<c.body.length
      ·obtain⟨gb,tw,rfl,q8,e0,e1,e2,e3,e4,q7⟩:=H4 hR rfl k t;have S:c.body[k]∈c.body:=Aj t;have b0:=q3.out;rw[<-d.cell (p:=⟨g,i*6,none⟩) hg]at b0;rw[<-d.cell (p:=⟨gb,k*5,none⟩) q8]at e0;obtain⟨b,B⟩:∃b,Hid (b=c.body[k]):=⟨c.body[k],Ao rfl⟩;rw[<-B.out]at S e0;unfold RA.w at b0 e0;clear e1 e2 e3 e4 q7;have hq:=D4 c.head.name p;cases hp:decide (c.head.name=p)
       ·rw[hp]at hq;have O:¬c.head.name=p:=by simpa using hp
        cases hin:BZ xs c.head.name
        ·have y:¬(c.head.name=p\/c.head.name∈xs):=by
            rintro(h|h)
            ·exact O h
            ·have:BZ xs c.head.name=true:=by simpa[BZ]using h
             rw[hin]at this;simp at this
         clear O hp;go_wp2_with fail;refine(Om _ w.heap.size G s xs j (by omega) c.head.name).mono ?_;rintro e Z ⟨r,J⟩;subst Z;rw[hin]at r;subst r;have a:Hid (z=false->(∀c∈l.take i,IE p xs c c.body.length)/\IE p xs c (k+1)):=fun h=>⟨(m.out h).1,(m.out h).2.step t (fun hf=>absurd hf y)⟩;obtain⟨j0,q⟩:∃hb,BZ xs b.name=hb:=⟨_,rfl⟩;go_wp2_with fail;refine(Om _ w.heap.size G s xs j (by omega) b.name).mono ?_;rintro e Z ⟨r,J⟩;subst Z;rw[q]at r;subst r;go_wp2_with fail;exact⟨⟨k+1,xs,z,t,by go_num,rfl,j,f,o,n,a,d⟩,by simp[intOf];omega⟩
        ·have y:c.head.name=p\/c.head.name∈xs:=.inr (by simpa[BZ]using hin);clear O hp;go_wp2_with fail;refine(Om _ w.heap.size G s xs j (by omega) c.head.name).mono ?_;rintro e Z ⟨r,J⟩;subst Z;rw[hin]at r;subst r;cases q:BZ xs b.name
         ·have R:=Ao (f.out.more E S y q);go_wp2_with fail;refine(Om _ w.heap.size G s xs j (by omega) b.name).mono ?_;rintro e Z ⟨r,J⟩;subst Z;rw[q]at r;subst r;go_wp2_with (at_builtin;refine AF _ rfl _ _ 31 rfl w.heap.size 9 i1 _ 1 16 underlying31 L q0 q1 q2 rfl (by decide) _ xs.length (xs.map fun x=>.string (bs x)) rfl (j.alloc _) ⟨wr.heap.size,0,none⟩ 1 [.string (bs b.name)] rfl rfl (AS _ _ _) (by intro u hu;simp at hu;subst hu;rfl) (by unfold maxLen;omega) (by omega) (by simp;omega) ?_;intro g2 I w2 N A);have M:Below w.heap.size w w2:=(d.alloc (by omega) _).grown A (by simp;omega) (A9 j);exact⟨⟨k+1,xs++[b.name],true,t,by go_num,rfl,by simpa using N,R,by simp;omega,by simp;omega,by intro h;simp at h,M⟩,by simp[intOf];omega⟩
         ·have a:Hid (z=false->(∀c∈l.take i,IE p xs c c.body.length)/\IE p xs c (k+1)):=fun h=>⟨(m.out h).1,(m.out h).2.step t (fun _=>B.out▸(by simpa[BZ]using q))⟩;go_wp2_with fail;refine(Om _ w.heap.size G s xs j (by omega) b.name).mono ?_;rintro e Z ⟨r,J⟩;subst Z;rw[q]at r;subst r;go_wp2_with fail;exact⟨⟨k+1,xs,z,t,by go_num,rfl,j,f,o,n,a,d⟩,by simp[intOf];omega⟩
       ·rw[hp]at hq;have y:c.head.name=p\/c.head.name∈xs:=.inl (by simpa using hp);clear hp;cases q:BZ xs b.name
        ·have R:=Ao (f.out.more E S y q);go_wp2_with fail;refine(Om _ w.heap.size G s xs j (by omega) b.name).mono ?_;rintro e Z ⟨r,J⟩;subst Z;rw[q]at r;subst r;go_wp2_with (at_builtin;refine AF _ rfl _ _ 31 rfl w.heap.size 9 i1 _ 1 16 underlying31 L q0 q1 q2 rfl (by decide) _ xs.length (xs.map fun x=>.string (bs x)) rfl (j.alloc _) ⟨wr.heap.size,0,none⟩ 1 [.string (bs b.name)] rfl rfl (AS _ _ _) (by intro u hu;simp at hu;subst hu;rfl) (by unfold maxLen;omega) (by omega) (by simp;omega) ?_;intro g2 I w2 N A);have M:Below w.heap.size w w2:=(d.alloc (by omega) _).grown A (by simp;omega) (A9 j);exact⟨⟨k+1,xs++[b.name],true,t,by go_num,rfl,by simpa using N,R,by simp;omega,by simp;omega,by intro h;simp at h,M⟩,by simp[intOf];omega⟩
        ·have a:Hid (z=false->(∀c∈l.take i,IE p xs c c.body.length)/\IE p xs c (k+1)):=fun h=>⟨(m.out h).1,(m.out h).2.step t (fun _=>B.out▸(by simpa[BZ]using q))⟩;go_wp2_with fail;refine(Om _ w.heap.size G s xs j (by omega) b.name).mono ?_;rintro e Z ⟨r,J⟩;subst Z;rw[q]at r;subst r;go_wp2_with fail;exact⟨⟨k+1,xs,z,t,by go_num,rfl,j,f,o,n,a,d⟩,by simp[intOf];omega⟩
      ·have W:k=c.body.length:=by omega
       have a:Hid (z=false->∀c∈l.take (i+1),IE p xs c c.body.length):=by
        intro h c' K;rw[q6.out,Bi,A7]at K;rcases K with K|rfl
        ·exact(m.out h).1 c' K
        ·rw[<-W];exact(m.out h).2
       clear W;go_wp2_with fail;exact⟨⟨i+1,xs,z,V,by go_num,rfl,j,f,o,n,a,d⟩,by simp[intOf];omega⟩
    ·have H:i=l.length:=by omega
     rw[H,AL]at P;clear H;go_wp2_with fail;refine⟨⟨xs,z,rfl,j,HD,P,U⟩,?_⟩;cases z
     ·simp only[Zl,lB];omega
     ·have:=n rfl;simp only[Zl,lB];omega
end
end Go.Proofs.YtpbfiffgcgnidaaGreatDoor
