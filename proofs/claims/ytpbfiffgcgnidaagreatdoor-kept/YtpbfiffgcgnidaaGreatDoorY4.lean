import Derived.Test.YtpbfiffgcgnidaaGreatDoorYal
import Derived.Test.YtpbfiffgcgnidaaGreatDoorY3
namespace Go.Proofs.YtpbfiffgcgnidaaGreatDoor
set_option maxRecDepth 100000
set_option maxHeartbeats 4000000
open Go.Proofs.Tryz
section
open Go.RowKit
structure IP where
 ok:Bool
 name:B8
 ts:List B8
 np:Nat
 ps:List Nat
 rest:B8
def Bp(n:B8)(ts:List B8):List Value:=
 [.string (bs n),.int .i64 ts.length,.string (bs (ts.getD 0 [])),.string (bs (ts.getD 1 [])),.string (bs (ts.getD 2 []))]
def CA(mark np:Nat)(ps:List Nat):List Value:=
 [.int .i64 mark,.int .i64 np,.int .i64 (ps.getD 0 0:Nat),.int .i64 (ps.getD 1 0:Nat),.int .i64 (ps.getD 2 0:Nat)]
def CM(s:ByteArray)(name:B8)(np:Nat):Nat->List B8->List Nat->B8->IP
 |0,ts,ps,l=>⟨AX l 41,name,ts,np,ps,AT l 41⟩
 |f+1,ts,ps,l=>
  if Ep l=false then⟨false,[],[],0,[],Bw l⟩
  else if f=0 then⟨AX (Bw l) 41,name,ts++[BL l],np,ps++[Bn s (AD l)],AT (Bw l) 41⟩
  else if AX (Bw l) 44=false then⟨AX (AT (Bw l) 44) 41,name,ts++[BL l],np,ps++[Bn s (AD l)],AT (AT (Bw l) 44) 41⟩
  else CM s name np f (ts++[BL l]) (ps++[Bn s (AD l)]) (AT (Bw l) 44)
def Bf(s:ByteArray)(l:B8):IP:=
 let m:=AD l
 let n:=Bt Ax 12 m
 if small (hd m)=false then⟨false,[],[],0,[],m⟩
 else if AX (m.drop n) 40=false then⟨true,m.take n,[],Bn s m,[],AT (m.drop n) 40⟩
 else CM s (m.take n) (Bn s m) 3 [] [] (AT (m.drop n) 40)
def IP.val(r:IP):Value:=.tuple #[.agg (Bp r.name r.ts).toArray,.agg (CA 0 r.np r.ps).toArray,.bool r.ok]
theorem Rd.bk{w:World}{b:Nat}{s:ByteArray}{l:B8}(h:Rd w b s l)(A:Nat)(y:b≠A)(x0 q j z x4:Value):
 Rd (((((w.setCell ⟨A,0,none⟩ x0).setCell ⟨A,1,none⟩ q).setCell ⟨A,2,none⟩ j).setCell ⟨A,3,none⟩ z).setCell ⟨A,4,none⟩ x4) b s l:=by
 obtain⟨i,k,v,u⟩:=h;exact⟨i,k,v,Aw.eg u A y x0 q j z x4⟩
def zA:List Value:=[.string ⟨#[]⟩,.int .i64 0,.string ⟨#[]⟩,.string ⟨#[]⟩,.string ⟨#[]⟩]
def zS:List Value:=[.int .i64 0,.int .i64 0,.int .i64 0,.int .i64 0,.int .i64 0]
theorem EI(w:World)(cs:List Value)(t:TypeId)(cs':List Value)(t':TypeId):Aw ((w.alloc (.cells cs.toArray t)).alloc (.cells cs'.toArray t')) w.heap.size cs t:=(Aw.new w cs t).alloc _
theorem C9(w:World)(o:Obj)(cs':List Value)(t':TypeId):Aw ((w.alloc o).alloc (.cells cs'.toArray t')) (w.heap.size+1) cs' t':=by
 have h:=Aw.new (w.alloc o) cs' t';have e:(w.alloc o).heap.size=w.heap.size+1:=by simp
 rwa [e]at h
theorem gX(w:World)(b:Nat)(s:ByteArray)(l:B8)(hR:Rd w b s l)(hs:s.size<=281474976710656)(h1:small (hd (AD l))=false):
 Calls prog 88 #[.pointer (some ⟨b,0,none⟩)] w fun e w'=>e=.returned (Bf s l).val/\Rd w' b s (Bf s l).rest/\Bg b w w':=by
 have z:s.size<=maxLen:=by unfold maxLen;omega
 have q0:=hR.lt;obtain⟨m,y⟩:∃m,Hid (m=AD l):=⟨_,rfl⟩;rw[<-y.out]at h1;go_enter func88,ntmps88;go_wp2_with (first|(go_at_call 87;refine(Fu _ b s l (by exact(hR.alloc _).alloc _) z).mono ?_;rintro e w1 ⟨rfl,j,q⟩;rw[<-y.out]at j;have k:=(EI w zA 80 zS 141).kept q (by omega);have hS:=(C9 w _ zS 141).kept q (by omega);obtain⟨a0,u,g,d,t⟩:=k.c5;have fA:=k.frozen;obtain⟨p,c,x,f,a⟩:=hS.c5;have fS:=hS.frozen)|(go_at_call 131;refine(JZ _ b s m (by exact j) z).mono ?_;rintro e w' ⟨rfl,n,rfl⟩)|(go_at_call 132;refine(F3 _ _).mono ?_;rintro e w' ⟨rfl,rfl⟩));have r:Bf s l=⟨false,[],[],0,[],m⟩:=by simp[Bf,<-y.out,h1]
 rw[r];refine Aq (v:=IP.val ⟨false,[],[],0,[],m⟩) (by simp[results,results88,go_sem,IP.val,Bp,CA,bs,a0,u,g,d,t,p,c,x,f,a]) rfl ⟨rfl,?_,?_⟩
 ·repeat (refine Rd.setOther ?_ _ _ (by simp only[ne_eq];omega))
  exact j.drewN _
 ·repeat (refine Bg.ba ?_ (by simp only[];omega) _)
  exact((((Bg.refl b w).aj _).aj _).trans q).bf _
end
section
attribute [local go_sem] AE As
open Go.RowKit
theorem YD(w:World)(b:Nat)(s:ByteArray)(l:B8)(hR:Rd w b s l)(hs:s.size<=281474976710656)(h1:small (hd (AD l))=true)
 (h2:AX ((AD l).drop (Bt Ax 12 (AD l))) 40=false):
 Calls prog 88 #[.pointer (some ⟨b,0,none⟩)] w fun e w'=>e=.returned (Bf s l).val/\Rd w' b s (Bf s l).rest/\Bg b w w':=by
 have x:s.size<=maxLen:=by unfold maxLen;omega
 have q0:=hR.lt;obtain⟨m,J⟩:∃m,Hid (m=AD l):=⟨_,rfl⟩;rw[<-J.out]at h1 h2;obtain⟨q,Z⟩:∃q,Hid (q=m.drop (Bt Ax 12 m)):=⟨_,rfl⟩;rw[<-Z.out]at h2;obtain⟨nm,K⟩:∃nm,Hid (nm=bs (m.take (Bt Ax 12 m))):=⟨_,rfl⟩;obtain⟨p,V⟩:∃p:Nat,Hid (p=Bn s m):=⟨_,rfl⟩;go_enter func88,ntmps88;go_wp2_with (first|(go_at_call 87;refine(Fu _ b s l (by exact(hR.alloc _).alloc _) x).mono ?_;rintro e w1 ⟨rfl,u,k⟩;rw[<-J.out]at u;have f:=(EI w zA 80 zS 141).kept k (by omega);have r:=(C9 w _ zS 141).kept k (by omega);have U:=u.c1;rw[<-V.out]at U;have q1:w.heap.size+1<w1.heap.size:=r.lt)|(go_at_call 131;refine(JZ _ b s m (by exact u) x).mono ?_;rintro e w' ⟨rfl,n,rfl⟩)|(go_at_call 132;refine(F3 _ _).mono ?_;rintro e w' ⟨rfl,rfl⟩)|(go_at_call 133;refine(QM _ b s m (by exact(u.alloc _).drewN _) hs).mono ?_;rintro e w2 ⟨G,o,z⟩;rw[<-K.out]at G;subst G;rw[<-Z.out]at o;clear U;have y:=((Aw.new w1 [.int .i64 0,.int .i64 p,.int .i64 0,.int .i64 0,.int .i64 0] 141).drewN n).kept z (by omega);have a:=((f.alloc _).drewN n).kept z (by omega);have i:=((r.alloc _).drewN n).kept z (by omega);have q2:w1.heap.size<w2.heap.size:=y.lt)|(go_at_call 89;refine(FH _ b s q 40 (by exact o.alloc _) x (by omega)).mono ?_;rintro e w3 ⟨rfl,Y,j⟩;have g:=(Aw.new w2 [.string nm,.int .i64 0,.string ⟨#[]⟩,.string ⟨#[]⟩,.string ⟨#[]⟩] 80).kept j (by omega);have d:=(y.alloc _).kept j (by omega);have t:=(a.alloc _).kept j (by omega);have c:=(i.alloc _).kept j (by omega);obtain⟨a0,B,R,P,C⟩:=t.c5;have fA:=t.frozen;obtain⟨N,X,S,E,A⟩:=c.c5;have fS:=c.frozen;obtain⟨t0,t1,t2,t3,t4⟩:=g.c5;obtain⟨p0,p1,p2,p3,p4⟩:=d.c5;clear f r y a i g d t c;have Q:Hid (Bg b w w3):=((((((Bg.refl b w).aj _).aj _).trans k).aj _).bf _|>.trans z|>.aj _).trans j;clear k z j));go_region;go_wp2;have M:Bf s l=⟨true,m.take (Bt Ax 12 m),[],Bn s m,[],AT q 40⟩:=by simp[Bf,<-J.out,h1,<-Z.out,h2]
 rw[M];refine Aq (v:=IP.val ⟨true,m.take (Bt Ax 12 m),[],Bn s m,[],AT q 40⟩) (by simp[results,results88,go_sem,IP.val,Bp,CA,bs,<-V.out,K.out,a0,B,R,P,C,N,X,S,E,A]) rfl ⟨rfl,?_,?_⟩
 ·exact Rd.drew ((Y.bk _ (by omega) _ _ _ _ _).bk _ (by omega) _ _ _ _ _)
 ·exact((Q.out.bk _ (by omega) _ _ _ _ _).bk _ (by omega) _ _ _ _ _).bx
def cnt(w:World)(b:Nat):Nat:=(intOf ((w.cell? ⟨b,1,none⟩).getD .nilIface)).toNat
theorem YE(w:World)(b:Nat)(s:ByteArray)(l:B8)(hR:Rd w b s l)(hs:s.size<=281474976710656)(h1:small (hd (AD l))=true)
 (h2:AX ((AD l).drop (Bt Ax 12 (AD l))) 40=true):
 Calls prog 88 #[.pointer (some ⟨b,0,none⟩)] w fun e w'=>e=.returned (Bf s l).val/\Rd w' b s (Bf s l).rest/\Bg b w w':=by
 have R:s.size<=maxLen:=by unfold maxLen;omega
 have y1:=hR.lt;obtain⟨m,HM⟩:∃m,Hid (m=AD l):=⟨_,rfl⟩;rw[<-HM.out]at h1 h2;obtain⟨q,HQ⟩:∃q,Hid (q=m.drop (Bt Ax 12 m)):=⟨_,rfl⟩;rw[<-HQ.out]at h2;obtain⟨nl,j0⟩:∃nl,Hid (nl=m.take (Bt Ax 12 m)):=⟨_,rfl⟩;obtain⟨nm,HN⟩:∃nm,Hid (nm=bs (m.take (Bt Ax 12 m))):=⟨_,rfl⟩;obtain⟨p,HP⟩:∃p:Nat,Hid (p=Bn s m):=⟨_,rfl⟩;go_enter func88,ntmps88;go_wp2_with (first|(go_at_call 87;refine(Fu _ b s l (by exact(hR.alloc _).alloc _) R).mono ?_;rintro e w1 ⟨rfl,W,q3⟩;rw[<-HM.out]at W;have j2:=(EI w zA 80 zS 141).kept q3 (by omega);have q8:=(C9 w _ zS 141).kept q3 (by omega);have c1:=W.c1;rw[<-HP.out]at c1;have y2:w.heap.size+1<w1.heap.size:=q8.lt)|(go_at_call 131;refine(JZ _ b s m (by exact W) R).mono ?_;rintro e w' ⟨rfl,n,rfl⟩)|(go_at_call 132;refine(F3 _ _).mono ?_;rintro e w' ⟨rfl,rfl⟩)|(go_at_call 133;refine(QM _ b s m (by exact(W.alloc _).drewN _) hs).mono ?_;rintro e w2 ⟨he,q6,H⟩;rw[<-HN.out]at he;subst he;rw[<-HQ.out]at q6;clear c1;have q1:=((Aw.new w1 [.int .i64 0,.int .i64 p,.int .i64 0,.int .i64 0,.int .i64 0] 141).drewN n).kept H (by omega);have j3:=((j2.alloc _).drewN n).kept H (by omega);have j5:=((q8.alloc _).drewN n).kept H (by omega);have y3:w1.heap.size<w2.heap.size:=q1.lt)|(go_at_call 89;refine(FH _ b s q 40 (by exact q6.alloc _) R (by omega)).mono ?_;rintro e w3 ⟨rfl,q7,A⟩;have q0:=(Aw.new w2 [.string nm,.int .i64 0,.string ⟨#[]⟩,.string ⟨#[]⟩,.string ⟨#[]⟩] 80).kept A (by omega);have q5:=(q1.alloc _).kept A (by omega);have j4:=(j3.alloc _).kept A (by omega);have j6:=(j5.alloc _).kept A (by omega);clear j2 q8 q1 j3 j5;have q9:Hid (Bg b w w3):=((((((Bg.refl b w).aj _).aj _).trans q3).aj _).bf _|>.trans H|>.aj _).trans A;clear q3 H A));obtain⟨q2,j1⟩:∃q2,Hid (q2=AT q 40):=⟨_,rfl⟩;rw[<-j1.out]at q7;have HR:Hid (Bf s l=CM s nl p 3 [] [] q2):=by show Bf s l=CM s nl p 3 [] [] q2;simp[Bf,<-HM.out,h1,<-HQ.out,h2,j0.out,HP.out,j1.out]
 have P:Hid (Aw w3 w.heap.size zA 80):=j4;have N:Hid (Aw w3 (w.heap.size+1) zS 141):=j6;have G:Hid (Aw w3 w2.heap.size (Bp nl []) 80):=by rw[HN.out,<-j0.out]at q0;exact q0
 have E:Hid (Aw w3 w1.heap.size (CA 0 p []) 141):=q5;clear j4 j6 q0 q5
 go_loopw [] (fun wr=>∃(ts:List B8) (ps:List Nat) (r:B8),ts.length=ps.length/\ts.length<3/\Hid (CM s nl p (3-ts.length) ts ps r=CM s nl p 3 [] [] q2)/\Rd wr b s r/\Hid (Aw wr w.heap.size zA 80)/\Hid (Aw wr (w.heap.size+1) zS 141)/\Hid (Aw wr w2.heap.size (Bp nl ts) 80)/\Hid (Aw wr w1.heap.size (CA 0 p ps) 141)/\Hid (Bg b w wr)) (fun wr=>3-cnt wr w2.heap.size)
 case atStart=>exact⟨[],[],q2,rfl,by decide,rfl,q7,P,N,G,E,q9⟩
 case round=>
  clear P N G E q9 q7 q6 W;obtain⟨ts,ps,r,j7,y0,HA,q4,P,N,G,E,HK⟩:=hrel;cases hb:Ep r
  ·have HE:Hid (Bf s l=⟨false,[],[],0,[],Bw r⟩):=by show Bf s l=_;rw[HR.out,<-HA.out];obtain⟨f,hf⟩:∃f,3-ts.length=f+1:=⟨2-ts.length,by omega⟩;rw[hf];simp[CM,hb]
   go_wp2_with (go_at_call 135;refine(Ze _ b s r (by exact q4) hs hb).mono ?_;rintro e w4 ⟨rfl,i,j⟩;have d:=P.out.kept j (by omega);have t:=N.out.kept j (by omega);have o:=HK.out.trans j;obtain⟨a0,a1,a2,a3,a4⟩:=d.c5;have fA:=d.frozen;obtain⟨s0,s1,s2,s3,s4⟩:=t.c5;have fS:=t.frozen);rw[HE.out];exact Aq (v:=IP.val ⟨false,[],[],0,[],Bw r⟩) (by simp[results,results88,go_sem,IP.val,Bp,CA,bs,a0,a1,a2,a3,a4,s0,s1,s2,s3,s4]) rfl ⟨rfl,(i.bk _ (by omega) _ _ _ _ _).bk _ (by omega) _ _ _ _ _,(o.bk _ (by omega) _ _ _ _ _).bk _ (by omega) _ _ _ _ _⟩
  ·match ts,ps,j7,y0 with
   |[],[],_,_=>
    go_wp2_with (go_at_call 135;refine(NM _ b s r (by exact q4) hs hb).mono ?_;rintro e w4 ⟨rfl,i,j⟩;have d:=P.out.kept j (by omega);have t:=N.out.kept j (by omega);have u:=G.out.kept j (by omega);have k:=E.out.kept j (by omega);have o:=HK.out.trans j;obtain⟨t0,t1,t2,t3,t4⟩:=u.c5;obtain⟨p0,p1,p2,p3,p4⟩:=k.c5;have fT:=u.frozen;have fP:=k.frozen);go_region;go_wp2_with fail;have B:Aw ((((w4.setCell ⟨w1.heap.size,2,none⟩ (.int .i64 (Bn s (AD r)))).setCell ⟨w2.heap.size,2,none⟩ (.string (bs (BL r)))).setCell ⟨w2.heap.size,1,none⟩ (.int .i64 1)).drew) w2.heap.size (Bp nl [BL r]) 80:=(((u.setOther ⟨w1.heap.size,2,none⟩ _ (by simp only[ne_eq];omega)).setCell 2 _).setCell 1 _).drew;have Y:Aw ((((w4.setCell ⟨w1.heap.size,2,none⟩ (.int .i64 (Bn s (AD r)))).setCell ⟨w2.heap.size,2,none⟩ (.string (bs (BL r)))).setCell ⟨w2.heap.size,1,none⟩ (.int .i64 1)).drew) w1.heap.size (CA 0 p [Bn s (AD r)]) 141:=(((k.setCell 2 _).setOther ⟨w2.heap.size,2,none⟩ _ (by simp only[ne_eq];omega)).setOther ⟨w2.heap.size,1,none⟩ _ (by simp only[ne_eq];omega)).drew;have J:Aw ((((w4.setCell ⟨w1.heap.size,2,none⟩ (.int .i64 (Bn s (AD r)))).setCell ⟨w2.heap.size,2,none⟩ (.string (bs (BL r)))).setCell ⟨w2.heap.size,1,none⟩ (.int .i64 1)).drew) w.heap.size zA 80:=(((d.setOther ⟨w1.heap.size,2,none⟩ _ (by simp only[ne_eq];omega)).setOther ⟨w2.heap.size,2,none⟩ _ (by simp only[ne_eq];omega)).setOther ⟨w2.heap.size,1,none⟩ _ (by simp only[ne_eq];omega)).drew;have U:Aw ((((w4.setCell ⟨w1.heap.size,2,none⟩ (.int .i64 (Bn s (AD r)))).setCell ⟨w2.heap.size,2,none⟩ (.string (bs (BL r)))).setCell ⟨w2.heap.size,1,none⟩ (.int .i64 1)).drew) (w.heap.size+1) zS 141:=(((t.setOther ⟨w1.heap.size,2,none⟩ _ (by simp only[ne_eq];omega)).setOther ⟨w2.heap.size,2,none⟩ _ (by simp only[ne_eq];omega)).setOther ⟨w2.heap.size,1,none⟩ _ (by simp only[ne_eq];omega)).drew;have K:Rd ((((w4.setCell ⟨w1.heap.size,2,none⟩ (.int .i64 (Bn s (AD r)))).setCell ⟨w2.heap.size,2,none⟩ (.string (bs (BL r)))).setCell ⟨w2.heap.size,1,none⟩ (.int .i64 1)).drew) b s (Bw r):=(((i.setOther ⟨w1.heap.size,2,none⟩ _ (by simp only[ne_eq];omega)).setOther ⟨w2.heap.size,2,none⟩ _ (by simp only[ne_eq];omega)).setOther ⟨w2.heap.size,1,none⟩ _ (by simp only[ne_eq];omega)).drew;have Z:Bg b w ((((w4.setCell ⟨w1.heap.size,2,none⟩ (.int .i64 (Bn s (AD r)))).setCell ⟨w2.heap.size,2,none⟩ (.string (bs (BL r)))).setCell ⟨w2.heap.size,1,none⟩ (.int .i64 1)).drew):=(((o.ba (p:=⟨w1.heap.size,2,none⟩) (by simp only[];omega) _).ba (p:=⟨w2.heap.size,2,none⟩) (by simp only[];omega) _).ba (p:=⟨w2.heap.size,1,none⟩) (by simp only[];omega) _).bx;refine(FH _ b s (Bw r) 44 (by exact K) R (by omega)).mono ?_;rintro e w5 ⟨rfl,S,c⟩;have g:=B.kept c (by omega);have a:=Y.kept c (by omega);have C:=J.kept c (by omega);have X:=U.kept c (by omega);have M:=Z.trans c;clear B Y J U K Z t0 t1 t2 t3 t4 p0 p1 p2 p3 p4 fT fP u k d t o j i;cases hc:AX (Bw r) 44
    ·have HE:Hid (Bf s l=⟨AX (AT (Bw r) 44) 41,nl,[BL r],p,[Bn s (AD r)],AT (AT (Bw r) 44) 41⟩):=by show Bf s l=_;rw[HR.out,<-HA.out];show CM s nl p (2+1) [] [] r=_;simp[CM,hb,hc]
     obtain⟨t0,t1,t2,t3,t4⟩:=g.c5;obtain⟨p0,p1,p2,p3,p4⟩:=a.c5;go_wp2_with fail
     go_region_with (go_at_call 89;refine(FH _ b s (AT (Bw r) 44) 41 (by exact S.drew) R (by omega)).mono ?_;rintro e w6 ⟨rfl,h,z⟩;have I:=g.drew.kept z (by omega);have O:=a.drew.kept z (by omega);have Q:=C.drew.kept z (by omega);have V:=X.drew.kept z (by omega);have L:=M.bx.trans z;obtain⟨z3,z4,z5,z7,z8⟩:=I.c5;obtain⟨j8,j9,z0,z1,z2⟩:=O.c5;obtain⟨a0,a1,a2,a3,a4⟩:=Q.c5;have fA:=Q.frozen;obtain⟨s0,s1,s2,s3,s4⟩:=V.c5;have fS:=V.frozen)
     all_goals go_wp2
     all_goals rw[HE.out]
     all_goals exact Aq (v:=IP.val ⟨AX (AT (Bw r) 44) 41,nl,[BL r],p,[Bn s (AD r)],AT (AT (Bw r) 44) 41⟩) (by simp[results,results88,go_sem,IP.val,Bp,CA,a0,a1,a2,a3,a4,s0,s1,s2,s3,s4]) rfl ⟨rfl,(h.bk _ (by omega) _ _ _ _ _).bk _ (by omega) _ _ _ _ _,(L.bk _ (by omega) _ _ _ _ _).bk _ (by omega) _ _ _ _ _⟩
    ·have HX:Hid (CM s nl p (3- [BL r].length) [BL r] [Bn s (AD r)] (AT (Bw r) 44)=CM s nl p 3 [] [] q2):=by show CM s nl p (3- [BL r].length) [BL r] [Bn s (AD r)] (AT (Bw r) 44)=_;rw[<-HA.out];show _=CM s nl p (2+1) [] [] r;simp[CM,hb,hc]
     go_wp2_with fail;exact⟨⟨[BL r],[Bn s (AD r)],AT (Bw r) 44,rfl,by simp,HX,S,C,X,g,a,M⟩,by have e1:=g.cell 1;have e2:=G.out.cell 1;simp[cnt,e1,e2,Bp,intOf]⟩
   |[x],[px],_,_=>
    go_wp2_with (go_at_call 135;refine(NM _ b s r (by exact q4) hs hb).mono ?_;rintro e w4 ⟨rfl,i,j⟩;have d:=P.out.kept j (by omega);have t:=N.out.kept j (by omega);have u:=G.out.kept j (by omega);have k:=E.out.kept j (by omega);have o:=HK.out.trans j;obtain⟨t0,t1,t2,t3,t4⟩:=u.c5;obtain⟨p0,p1,p2,p3,p4⟩:=k.c5;have fT:=u.frozen;have fP:=k.frozen);go_region;go_wp2_with fail;have B:Aw ((((w4.setCell ⟨w1.heap.size,3,none⟩ (.int .i64 (Bn s (AD r)))).setCell ⟨w2.heap.size,3,none⟩ (.string (bs (BL r)))).setCell ⟨w2.heap.size,1,none⟩ (.int .i64 2)).drew) w2.heap.size (Bp nl [x,BL r]) 80:=(((u.setOther ⟨w1.heap.size,3,none⟩ _ (by simp only[ne_eq];omega)).setCell 3 _).setCell 1 _).drew;have Y:Aw ((((w4.setCell ⟨w1.heap.size,3,none⟩ (.int .i64 (Bn s (AD r)))).setCell ⟨w2.heap.size,3,none⟩ (.string (bs (BL r)))).setCell ⟨w2.heap.size,1,none⟩ (.int .i64 2)).drew) w1.heap.size (CA 0 p [px,Bn s (AD r)]) 141:=(((k.setCell 3 _).setOther ⟨w2.heap.size,3,none⟩ _ (by simp only[ne_eq];omega)).setOther ⟨w2.heap.size,1,none⟩ _ (by simp only[ne_eq];omega)).drew;have J:Aw ((((w4.setCell ⟨w1.heap.size,3,none⟩ (.int .i64 (Bn s (AD r)))).setCell ⟨w2.heap.size,3,none⟩ (.string (bs (BL r)))).setCell ⟨w2.heap.size,1,none⟩ (.int .i64 2)).drew) w.heap.size zA 80:=(((d.setOther ⟨w1.heap.size,3,none⟩ _ (by simp only[ne_eq];omega)).setOther ⟨w2.heap.size,3,none⟩ _ (by simp only[ne_eq];omega)).setOther ⟨w2.heap.size,1,none⟩ _ (by simp only[ne_eq];omega)).drew;have U:Aw ((((w4.setCell ⟨w1.heap.size,3,none⟩ (.int .i64 (Bn s (AD r)))).setCell ⟨w2.heap.size,3,none⟩ (.string (bs (BL r)))).setCell ⟨w2.heap.size,1,none⟩ (.int .i64 2)).drew) (w.heap.size+1) zS 141:=(((t.setOther ⟨w1.heap.size,3,none⟩ _ (by simp only[ne_eq];omega)).setOther ⟨w2.heap.size,3,none⟩ _ (by simp only[ne_eq];omega)).setOther ⟨w2.heap.size,1,none⟩ _ (by simp only[ne_eq];omega)).drew;have K:Rd ((((w4.setCell ⟨w1.heap.size,3,none⟩ (.int .i64 (Bn s (AD r)))).setCell ⟨w2.heap.size,3,none⟩ (.string (bs (BL r)))).setCell ⟨w2.heap.size,1,none⟩ (.int .i64 2)).drew) b s (Bw r):=(((i.setOther ⟨w1.heap.size,3,none⟩ _ (by simp only[ne_eq];omega)).setOther ⟨w2.heap.size,3,none⟩ _ (by simp only[ne_eq];omega)).setOther ⟨w2.heap.size,1,none⟩ _ (by simp only[ne_eq];omega)).drew;have Z:Bg b w ((((w4.setCell ⟨w1.heap.size,3,none⟩ (.int .i64 (Bn s (AD r)))).setCell ⟨w2.heap.size,3,none⟩ (.string (bs (BL r)))).setCell ⟨w2.heap.size,1,none⟩ (.int .i64 2)).drew):=(((o.ba (p:=⟨w1.heap.size,3,none⟩) (by simp only[];omega) _).ba (p:=⟨w2.heap.size,3,none⟩) (by simp only[];omega) _).ba (p:=⟨w2.heap.size,1,none⟩) (by simp only[];omega) _).bx;refine(FH _ b s (Bw r) 44 (by exact K) R (by omega)).mono ?_;rintro e w5 ⟨rfl,S,c⟩;have g:=B.kept c (by omega);have a:=Y.kept c (by omega);have C:=J.kept c (by omega);have X:=U.kept c (by omega);have M:=Z.trans c;clear B Y J U K Z t0 t1 t2 t3 t4 p0 p1 p2 p3 p4 fT fP u k d t o j i;cases hc:AX (Bw r) 44
    ·have HE:Hid (Bf s l=⟨AX (AT (Bw r) 44) 41,nl,[x,BL r],p,[px,Bn s (AD r)],AT (AT (Bw r) 44) 41⟩):=by show Bf s l=_;rw[HR.out,<-HA.out];show CM s nl p (1+1) [x] [px] r=_;simp[CM,hb,hc]
     obtain⟨t0,t1,t2,t3,t4⟩:=g.c5;obtain⟨p0,p1,p2,p3,p4⟩:=a.c5;go_wp2_with fail
     go_region_with (go_at_call 89;refine(FH _ b s (AT (Bw r) 44) 41 (by exact S.drew) R (by omega)).mono ?_;rintro e w6 ⟨rfl,h,z⟩;have I:=g.drew.kept z (by omega);have O:=a.drew.kept z (by omega);have Q:=C.drew.kept z (by omega);have V:=X.drew.kept z (by omega);have L:=M.bx.trans z;obtain⟨z3,z4,z5,z7,z8⟩:=I.c5;obtain⟨j8,j9,z0,z1,z2⟩:=O.c5;obtain⟨a0,a1,a2,a3,a4⟩:=Q.c5;have fA:=Q.frozen;obtain⟨s0,s1,s2,s3,s4⟩:=V.c5;have fS:=V.frozen)
     all_goals go_wp2
     all_goals rw[HE.out]
     all_goals exact Aq (v:=IP.val ⟨AX (AT (Bw r) 44) 41,nl,[x,BL r],p,[px,Bn s (AD r)],AT (AT (Bw r) 44) 41⟩) (by simp[results,results88,go_sem,IP.val,Bp,CA,a0,a1,a2,a3,a4,s0,s1,s2,s3,s4]) rfl ⟨rfl,(h.bk _ (by omega) _ _ _ _ _).bk _ (by omega) _ _ _ _ _,(L.bk _ (by omega) _ _ _ _ _).bk _ (by omega) _ _ _ _ _⟩
    ·have HX:Hid (CM s nl p (3- [x,BL r].length) [x,BL r] [px,Bn s (AD r)] (AT (Bw r) 44)=CM s nl p 3 [] [] q2):=by show CM s nl p (3- [x,BL r].length) [x,BL r] [px,Bn s (AD r)] (AT (Bw r) 44)=_;rw[<-HA.out];show _=CM s nl p (1+1) [x] [px] r;simp[CM,hb,hc]
     go_wp2_with fail;exact⟨⟨[x,BL r],[px,Bn s (AD r)],AT (Bw r) 44,rfl,by simp,HX,S,C,X,g,a,M⟩,by have e1:=g.cell 1;have e2:=G.out.cell 1;simp[cnt,e1,e2,Bp,intOf]⟩
   |[x,y],[px,py],_,_=>
    have HE:Hid (Bf s l=⟨AX (Bw r) 41,nl,[x,y,BL r],p,[px,py,Bn s (AD r)],AT (Bw r) 41⟩):=by show Bf s l=_;rw[HR.out,<-HA.out];show CM s nl p (0+1) [x,y] [px,py] r=_;simp[CM,hb]
    go_wp2_with (go_at_call 135;refine(NM _ b s r (by exact q4) hs hb).mono ?_;rintro e w4 ⟨rfl,i,j⟩;have d:=P.out.kept j (by omega);have t:=N.out.kept j (by omega);have u:=G.out.kept j (by omega);have k:=E.out.kept j (by omega);have o:=HK.out.trans j;obtain⟨t0,t1,t2,t3,t4⟩:=u.c5;obtain⟨p0,p1,p2,p3,p4⟩:=k.c5;have fT:=u.frozen;have fP:=k.frozen);go_region;go_wp2_with fail;have B:Aw ((((w4.setCell ⟨w1.heap.size,4,none⟩ (.int .i64 (Bn s (AD r)))).setCell ⟨w2.heap.size,4,none⟩ (.string (bs (BL r)))).setCell ⟨w2.heap.size,1,none⟩ (.int .i64 3)).drew) w2.heap.size (Bp nl [x,y,BL r]) 80:=(((u.setOther ⟨w1.heap.size,4,none⟩ _ (by simp only[ne_eq];omega)).setCell 4 _).setCell 1 _).drew;have Y:Aw ((((w4.setCell ⟨w1.heap.size,4,none⟩ (.int .i64 (Bn s (AD r)))).setCell ⟨w2.heap.size,4,none⟩ (.string (bs (BL r)))).setCell ⟨w2.heap.size,1,none⟩ (.int .i64 3)).drew) w1.heap.size (CA 0 p [px,py,Bn s (AD r)]) 141:=(((k.setCell 4 _).setOther ⟨w2.heap.size,4,none⟩ _ (by simp only[ne_eq];omega)).setOther ⟨w2.heap.size,1,none⟩ _ (by simp only[ne_eq];omega)).drew;have J:Aw ((((w4.setCell ⟨w1.heap.size,4,none⟩ (.int .i64 (Bn s (AD r)))).setCell ⟨w2.heap.size,4,none⟩ (.string (bs (BL r)))).setCell ⟨w2.heap.size,1,none⟩ (.int .i64 3)).drew) w.heap.size zA 80:=(((d.setOther ⟨w1.heap.size,4,none⟩ _ (by simp only[ne_eq];omega)).setOther ⟨w2.heap.size,4,none⟩ _ (by simp only[ne_eq];omega)).setOther ⟨w2.heap.size,1,none⟩ _ (by simp only[ne_eq];omega)).drew;have U:Aw ((((w4.setCell ⟨w1.heap.size,4,none⟩ (.int .i64 (Bn s (AD r)))).setCell ⟨w2.heap.size,4,none⟩ (.string (bs (BL r)))).setCell ⟨w2.heap.size,1,none⟩ (.int .i64 3)).drew) (w.heap.size+1) zS 141:=(((t.setOther ⟨w1.heap.size,4,none⟩ _ (by simp only[ne_eq];omega)).setOther ⟨w2.heap.size,4,none⟩ _ (by simp only[ne_eq];omega)).setOther ⟨w2.heap.size,1,none⟩ _ (by simp only[ne_eq];omega)).drew;have K:Rd ((((w4.setCell ⟨w1.heap.size,4,none⟩ (.int .i64 (Bn s (AD r)))).setCell ⟨w2.heap.size,4,none⟩ (.string (bs (BL r)))).setCell ⟨w2.heap.size,1,none⟩ (.int .i64 3)).drew) b s (Bw r):=(((i.setOther ⟨w1.heap.size,4,none⟩ _ (by simp only[ne_eq];omega)).setOther ⟨w2.heap.size,4,none⟩ _ (by simp only[ne_eq];omega)).setOther ⟨w2.heap.size,1,none⟩ _ (by simp only[ne_eq];omega)).drew;have Z:Bg b w ((((w4.setCell ⟨w1.heap.size,4,none⟩ (.int .i64 (Bn s (AD r)))).setCell ⟨w2.heap.size,4,none⟩ (.string (bs (BL r)))).setCell ⟨w2.heap.size,1,none⟩ (.int .i64 3)).drew):=(((o.ba (p:=⟨w1.heap.size,4,none⟩) (by simp only[];omega) _).ba (p:=⟨w2.heap.size,4,none⟩) (by simp only[];omega) _).ba (p:=⟨w2.heap.size,1,none⟩) (by simp only[];omega) _).bx;clear u k d t o j i;generalize z9:((((w4.setCell ⟨w1.heap.size,4,none⟩ (.int .i64 (Bn s (AD r)))).setCell ⟨w2.heap.size,4,none⟩ (.string (bs (BL r)))).setCell ⟨w2.heap.size,1,none⟩ (.int .i64 3)).drew)=w5 at*;have g:=B;have a:=Y;have C:=J;have X:=U;have S:=K;have M:=Z;clear z9 B Y J U K Z t0 t1 t2 t3 t4 p0 p1 p2 p3 p4 fT fP;obtain⟨t0,t1,t2,t3,t4⟩:=g.c5;obtain⟨p0,p1,p2,p3,p4⟩:=a.c5
    go_region_with (go_at_call 89;refine(FH _ b s (Bw r) 41 (by exact S.drew) R (by omega)).mono ?_;rintro e w6 ⟨rfl,h,z⟩;have I:=g.drew.kept z (by omega);have O:=a.drew.kept z (by omega);have Q:=C.drew.kept z (by omega);have V:=X.drew.kept z (by omega);have L:=M.bx.trans z;obtain⟨z3,z4,z5,z7,z8⟩:=I.c5;obtain⟨j8,j9,z0,z1,z2⟩:=O.c5;obtain⟨a0,a1,a2,a3,a4⟩:=Q.c5;have fA:=Q.frozen;obtain⟨s0,s1,s2,s3,s4⟩:=V.c5;have fS:=V.frozen)
    all_goals go_wp2
    all_goals rw[HE.out]
    all_goals exact Aq (v:=IP.val ⟨AX (Bw r) 41,nl,[x,y,BL r],p,[px,py,Bn s (AD r)],AT (Bw r) 41⟩) (by simp[results,results88,go_sem,IP.val,Bp,CA,a0,a1,a2,a3,a4,s0,s1,s2,s3,s4]) rfl ⟨rfl,(h.bk _ (by omega) _ _ _ _ _).bk _ (by omega) _ _ _ _ _,(L.bk _ (by omega) _ _ _ _ _).bk _ (by omega) _ _ _ _ _⟩
end
section
open Go.RowKit
theorem JA(w:World)(b:Nat)(s:ByteArray)(l:B8)(hR:Rd w b s l)(hs:s.size<=281474976710656):
 Calls prog 88 #[.pointer (some ⟨b,0,none⟩)] w fun e w'=>e=.returned (Bf s l).val/\Rd w' b s (Bf s l).rest/\Bg b w w':=by
 cases h1:small (hd (AD l))
 ·exact gX w b s l hR hs h1
 ·cases h2:AX ((AD l).drop (Bt Ax 12 (AD l))) 40
  ·exact YD w b s l hR hs h1 h2
  ·exact YE w b s l hR hs h1 h2
end
section
attribute [local go_sem] AE As
open Go.RowKit
def Tk(n:B8)(ts:List B8)(neg:Bool):List Value:=
 [.string (bs n),.int .i64 ts.length,.string (bs (ts.getD 0 [])),.string (bs (ts.getD 1 [])),.string (bs (ts.getD 2 [])),.bool neg]
def Jr(l:B8):Bool:=AX l 33
def Ku(s:ByteArray)(l:B8):Nat:=if AX l 33=true then Bn s (AT l 33)-1 else 0
def Cd(s:ByteArray)(l:B8):IP:=Bf s (AT l 33)
def J2(s:ByteArray)(l:B8):Value:=
 .tuple #[.agg (Tk (Cd s l).name (Cd s l).ts (Jr l)).toArray,.agg (CA (Ku s l) (Cd s l).np (Cd s l).ps).toArray,.bool (Cd s l).ok]
theorem Zm(l:B8):(AD l).length<=l.length:=by
 induction l with
 |nil=>exact Ab _
 |cons c l ih=>unfold AD;split<;>simp<;>omega
theorem Zb(l:B8)(m:Int)(h:AX l m=true)(hm:0<m):(AT l m).length<l.length:=by
 have j:=h;unfold AX at h;have q:=Zm l;simp only[AT,j,Ai]
 cases hs:AD l with
 |nil=>rw[hs]at h;simp[hd]at h;omega
 |cons c r=>rw[hs]at q;simp at q⊢;omega
theorem Rd.len{w:World}{b:Nat}{s:ByteArray}{l:B8}(h:Rd w b s l):l.length<=s.size:=by obtain⟨i,hi,rfl,hr⟩:=h;simp
def IP.nm(r:IP):ByteArray:=bs r.name
def IP.cn(r:IP):Int:=r.ts.length
def IP.t(r:IP)(i:Nat):ByteArray:=bs (r.ts.getD i [])
def IP.cw(r:IP):Int:=r.np
def IP.p(r:IP)(i:Nat):Int:=(r.ps.getD i 0:Nat)
theorem IP.cj(r:IP):r.val=.tuple #[.agg #[.string r.nm,.int .i64 r.cn,.string (r.t 0),.string (r.t 1),.string (r.t 2)],.agg #[.int .i64 0,.int .i64 r.cw,.int .i64 (r.p 0),.int .i64 (r.p 1),.int .i64 (r.p 2)],.bool r.ok]:=rfl
theorem XS(s:ByteArray)(l r0:B8)(A:IP)(q:r0=AT l 33)(j:A=Bf s r0)(h1:AX l 33=false):
 J2 s l=.tuple #[.agg #[.string A.nm,.int .i64 A.cn,.string (A.t 0),.string (A.t 1),.string (A.t 2),.bool false],.agg #[.int .i64 0,.int .i64 A.cw,.int .i64 (A.p 0),.int .i64 (A.p 1),.int .i64 (A.p 2)],.bool A.ok]:=by
 subst q;subst j;simp only[J2,Jr,Ku,h1];rfl
theorem Vk(s:ByteArray)(l r0:B8)(A:IP)(q:r0=AT l 33)(j:A=Bf s r0)(h1:AX l 33=true)(hp:1<=Bn s r0):
 J2 s l=.tuple #[.agg #[.string A.nm,.int .i64 A.cn,.string (A.t 0),.string (A.t 1),.string (A.t 2),.bool true],.agg #[.int .i64 ((Bn s r0:Int)-1),.int .i64 A.cw,.int .i64 (A.p 0),.int .i64 (A.p 1),.int .i64 (A.p 2)],.bool A.ok]:=by
 have e:((Bn s r0:Nat):Int)-1=((Bn s r0-1:Nat):Int):=by omega
 rw[e];subst q;subst j;simp only[J2,Jr,Ku,h1];rfl
theorem Bg.di{b:Nat}{u w:World}(h:Bg b u w)(A:Nat)(q:u.heap.size<=A)(x0 j z y x4 x5:Value):
 Bg b u ((((((w.setCell ⟨A,0,none⟩ x0).setCell ⟨A,1,none⟩ j).setCell ⟨A,2,none⟩ z).setCell ⟨A,3,none⟩ y).setCell ⟨A,4,none⟩ x4).setCell ⟨A,5,none⟩ x5):=
 (h.bk A q x0 j z y x4).ba (p:=⟨A,5,none⟩) q x5
theorem Rd.di{w:World}{b:Nat}{s:ByteArray}{l:B8}(h:Rd w b s l)(A:Nat)(q:b≠A)(x0 j z y x4 x5:Value):
 Rd ((((((w.setCell ⟨A,0,none⟩ x0).setCell ⟨A,1,none⟩ j).setCell ⟨A,2,none⟩ z).setCell ⟨A,3,none⟩ y).setCell ⟨A,4,none⟩ x4).setCell ⟨A,5,none⟩ x5) b s l:=
 (h.bk A q x0 j z y x4).setOther ⟨A,5,none⟩ x5 q
def zL:List Value:=[.string ⟨#[]⟩,.int .i64 0,.string ⟨#[]⟩,.string ⟨#[]⟩,.string ⟨#[]⟩,.bool false]
theorem Vj(w:World)(b:Nat)(s:ByteArray)(l:B8)(hR:Rd w b s l)(hs:s.size<=281474976710656)(h1:AX l 33=false):
 Calls prog 136 #[.pointer (some ⟨b,0,none⟩)] w fun e w'=>e=.returned (J2 s l)/\Rd w' b s (Cd s l).rest/\Bg b w w':=by
 have f:s.size<=maxLen:=by unfold maxLen;omega
 have q1:=hR.lt;have q0:=hR.len;obtain⟨r0,r⟩:∃r0,Hid (r0=AT l 33):=⟨_,rfl⟩;obtain⟨A,c⟩:∃A,Hid (A=Bf s r0):=⟨_,rfl⟩;have m:Hid ((Cd s l).rest=A.rest):=by show(Cd s l).rest=_;simp[Cd,<-r.out,<-c.out]
 rw[XS s l r0 A r.out c.out h1,m.out];go_enter func136,ntmps136;go_wp2_with (first|(go_at_call 89;refine(FH _ b s l 33 (by exact(hR.alloc _).alloc _) f (by omega)).mono ?_;rintro e w1 ⟨rfl,y,j⟩;rw[<-r.out]at y;have V:=y.c1;have g:=(EI w zL 186 zS 141).kept j (by omega);have k:=(C9 w _ zS 141).kept j (by omega);have q2:w.heap.size+1<w1.heap.size:=k.lt)|(go_at_call 88;refine(JA _ b s r0 (by exact y) hs).mono ?_;rintro e w2 ⟨x,d,q⟩;rw[<-c.out]at x d;rw[IP.cj]at x;subst x;clear V;have z:=g.kept q (by omega);have u:=k.kept q (by omega);have q3:w1.heap.size<=w2.heap.size:=q.size;obtain⟨a0,Q,J,Z,Y,K⟩:=z.c6;have fA:=z.frozen;obtain⟨U,G,B,R,P⟩:=u.c5;have fS:=u.frozen;have n:Hid (Bg b w w2):=((((Bg.refl b w).aj _).aj _).trans j).trans q;clear j q g k z u;have a:w.heap.size<w2.heap.size:=(by omega);have o:w.heap.size+1<w2.heap.size:=(by omega);have i:w.heap.size<w2.heap.size+1:=(by omega);have q4:w.heap.size+1<w2.heap.size+1:=(by omega)));go_region;go_wp2;exact Aq (v:=.tuple #[.agg #[.string A.nm,.int .i64 A.cn,.string (A.t 0),.string (A.t 1),.string (A.t 2),.bool false],.agg #[.int .i64 0,.int .i64 A.cw,.int .i64 (A.p 0),.int .i64 (A.p 1),.int .i64 (A.p 2)],.bool A.ok]) (by simp[results,results136,go_sem,a0,Q,J,Z,Y,K,U,G,B,R,P,a,o,i]) rfl ⟨rfl,((((d.di _ (by omega) _ _ _ _ _ _).bk _ (by omega) _ _ _ _ _).alloc _).alloc _).drew,((((n.out.di _ (by omega) _ _ _ _ _ _).bk _ (by omega) _ _ _ _ _).aj _).aj _).bx⟩
theorem Tj(w:World)(b:Nat)(s:ByteArray)(l:B8)(hR:Rd w b s l)(hs:s.size<=281474976710656)(h1:AX l 33=true):
 Calls prog 136 #[.pointer (some ⟨b,0,none⟩)] w fun e w'=>e=.returned (J2 s l)/\Rd w' b s (Cd s l).rest/\Bg b w w':=by
 have f:s.size<=maxLen:=by unfold maxLen;omega
 have q1:=hR.lt;have q0:=hR.len;obtain⟨r0,r⟩:∃r0,Hid (r0=AT l 33):=⟨_,rfl⟩;obtain⟨A,c⟩:∃A,Hid (A=Bf s r0):=⟨_,rfl⟩;have U:1<=Bn s r0:=by have:=Zb l 33 h1 (by omega);rw[<-r.out]at this;unfold Bn;omega
 have q2:Bn s r0<=281474976710656:=by unfold Bn;omega
 have m:Hid ((Cd s l).rest=A.rest):=by show(Cd s l).rest=_;simp[Cd,<-r.out,<-c.out]
 rw[Vk s l r0 A r.out c.out h1 U,m.out];go_enter func136,ntmps136;go_wp2_with (first|(go_at_call 89;refine(FH _ b s l 33 (by exact(hR.alloc _).alloc _) f (by omega)).mono ?_;rintro e w1 ⟨rfl,y,j⟩;rw[<-r.out]at y;have V:=y.c1;have g:=(EI w zL 186 zS 141).kept j (by omega);have k:=(C9 w _ zS 141).kept j (by omega);have q3:w.heap.size+1<w1.heap.size:=k.lt)|(go_at_call 88;refine(JA _ b s r0 (by exact y) hs).mono ?_;rintro e w2 ⟨x,d,q⟩;rw[<-c.out]at x d;rw[IP.cj]at x;subst x;clear V;have z:=g.kept q (by omega);have u:=k.kept q (by omega);have q4:w1.heap.size<=w2.heap.size:=q.size;obtain⟨a0,Q,J,Z,Y,K⟩:=z.c6;have fA:=z.frozen;obtain⟨G,B,R,P,C⟩:=u.c5;have fS:=u.frozen;have n:Hid (Bg b w w2):=((((Bg.refl b w).aj _).aj _).trans j).trans q;clear j q g k z u;have a:w.heap.size<w2.heap.size:=(by omega);have o:w.heap.size+1<w2.heap.size:=(by omega);have i:w.heap.size<w2.heap.size+1:=(by omega);have q5:w.heap.size+1<w2.heap.size+1:=(by omega)));go_region;go_wp2;exact Aq (v:=.tuple #[.agg #[.string A.nm,.int .i64 A.cn,.string (A.t 0),.string (A.t 1),.string (A.t 2),.bool true],.agg #[.int .i64 ((Bn s r0:Int)-1),.int .i64 A.cw,.int .i64 (A.p 0),.int .i64 (A.p 1),.int .i64 (A.p 2)],.bool A.ok]) (by simp[results,results136,go_sem,a0,Q,J,Z,Y,K,G,B,R,P,C,a,o,i]) rfl ⟨rfl,((((d.di _ (by omega) _ _ _ _ _ _).bk _ (by omega) _ _ _ _ _).alloc _).alloc _).drew,((((n.out.di _ (by omega) _ _ _ _ _ _).bk _ (by omega) _ _ _ _ _).aj _).aj _).bx⟩
theorem Qh(w:World)(b:Nat)(s:ByteArray)(l:B8)(hR:Rd w b s l)(hs:s.size<=281474976710656):
 Calls prog 136 #[.pointer (some ⟨b,0,none⟩)] w fun e w'=>e=.returned (J2 s l)/\Rd w' b s (Cd s l).rest/\Bg b w w':=by
 cases h1:AX l 33
 ·exact Vj w b s l hR hs h1
 ·exact Tj w b s l hR hs h1
end
end Go.Proofs.YtpbfiffgcgnidaaGreatDoor
