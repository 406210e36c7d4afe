import Derived.Test.YtpbfiffgcgnidaaGreatYal
import Derived.Test.YtpbfiffgcgnidaaGreatY5
import Derived.Test.YtpbfiffgcgnidaaGreatY6
namespace Go.Proofs.YtpbfiffgcgnidaaGreat
set_option maxRecDepth 100000
set_option maxHeartbeats 4000000
set_option linter.unusedSimpArgs false
open Go.Proofs.Tryz
section
open Go.RowKit
structure DO where
 ok:Bool
 name:B8
 ts:List B8
 np:Nat
 ps:List Nat
 rest:B8
def AW(n:B8)(ts:List B8):List Value:=
 [.string (bs n),.int .i64 ts.length,.string (bs (ts.getD 0 [])),.string (bs (ts.getD 1 [])),.string (bs (ts.getD 2 []))]
def Bd(mark np:Nat)(ps:List Nat):List Value:=
 [.int .i64 mark,.int .i64 np,.int .i64 (ps.getD 0 0:Nat),.int .i64 (ps.getD 1 0:Nat),.int .i64 (ps.getD 2 0:Nat)]
def BO(s:ByteArray)(name:B8)(np:Nat):Nat->List B8->List Nat->B8->DO
 |0,ts,ps,l=>⟨Bc l 41,name,ts,np,ps,Av l 41⟩
 |f+1,ts,ps,l=>
  if FN l=false then⟨false,[],[],0,[],A8 l⟩
  else if f=0 then⟨Bc (A8 l) 41,name,ts++[AZ l],np,ps++[Ay s (Ao l)],Av (A8 l) 41⟩
  else if Bc (A8 l) 44=false then⟨Bc (Av (A8 l) 44) 41,name,ts++[AZ l],np,ps++[Ay s (Ao l)],Av (Av (A8 l) 44) 41⟩
  else BO s name np f (ts++[AZ l]) (ps++[Ay s (Ao l)]) (Av (A8 l) 44)
def Ar(s:ByteArray)(l:B8):DO:=
 let m:=Ao l
 let n:=Bn AF 12 m
 if small (hd m)=false then⟨false,[],[],0,[],m⟩
 else if Bc (m.drop n) 40=false then⟨true,m.take n,[],Ay s m,[],Av (m.drop n) 40⟩
 else BO s (m.take n) (Ay s m) 3 [] [] (Av (m.drop n) 40)
def DO.val(r:DO):Value:=.tuple #[.agg (AW r.name r.ts).toArray,.agg (Bd 0 r.np r.ps).toArray,.bool r.ok]
theorem Rd.set5{w:World}{b:Nat}{s:ByteArray}{l:B8}(h:Rd w b s l)(A:Nat)(hA:b≠A)(x0 x1 x2 x3 x4:Value):
 Rd (((((w.setCell ⟨A,0,none⟩ x0).setCell ⟨A,1,none⟩ x1).setCell ⟨A,2,none⟩ x2).setCell ⟨A,3,none⟩ x3).setCell ⟨A,4,none⟩ x4) b s l:=by
 obtain⟨i,hi,hl,hr⟩:=h;exact⟨i,hi,hl,Ag.setOther5 hr A hA x0 x1 x2 x3 x4⟩
def zA:List Value:=[.string ⟨#[]⟩,.int .i64 0,.string ⟨#[]⟩,.string ⟨#[]⟩,.string ⟨#[]⟩]
def zS:List Value:=[.int .i64 0,.int .i64 0,.int .i64 0,.int .i64 0,.int .i64 0]
theorem Df(w:World)(cs:List Value)(t:TypeId)(cs':List Value)(t':TypeId):Ag ((w.alloc (.cells cs.toArray t)).alloc (.cells cs'.toArray t')) w.heap.size cs t:=(Ag.new w cs t).alloc _
theorem BZ(w:World)(o:Obj)(cs':List Value)(t':TypeId):Ag ((w.alloc o).alloc (.cells cs'.toArray t')) (w.heap.size+1) cs' t':=by
 have h:=Ag.new (w.alloc o) cs' t';have e:(w.alloc o).heap.size=w.heap.size+1:=by simp
 rwa [e]at h
theorem N9(w:World)(b:Nat)(s:ByteArray)(l:B8)(hR:Rd w b s l)(hs:s.size<=281474976710656)(h1:small (hd (Ao l))=false):
 Calls prog 72 #[.pointer (some ⟨b,0,none⟩)] w fun e w'=>e=.returned (Ar s l).val/\Rd w' b s (Ar s l).rest/\An b w w':=by
 have hsm:s.size<=maxLen:=by unfold maxLen;omega
 have hlt:=hR.lt;obtain⟨m,HM⟩:∃m,Hid (m=Ao l):=⟨_,rfl⟩;rw[<-HM.out]at h1;go_enter func72,ntmps72;go_wp2_with (first|(go_at_call 71;refine(Ci _ b s l (by exact(hR.alloc _).alloc _) hsm).mono ?_;rintro e w1 ⟨rfl,hR1,hK1⟩;rw[<-HM.out]at hR1;have hA:=(Df w zA 54 zS 82).kept hK1 (by omega);have hS:=(BZ w _ zS 82).kept hK1 (by omega);obtain⟨a0,a1,a2,a3,a4⟩:=hA.c5;have fA:=hA.frozen;obtain⟨s0,s1,s2,s3,s4⟩:=hS.c5;have fS:=hS.frozen)|(go_at_call 91;refine(Ei _ b s m (by exact hR1) hsm).mono ?_;rintro e w' ⟨rfl,n,rfl⟩)|(go_at_call 92;refine(Cw _ _).mono ?_;rintro e w' ⟨rfl,rfl⟩));have er:Ar s l=⟨false,[],[],0,[],m⟩:=by simp[Ar,<-HM.out,h1]
 rw[er];refine bodyPost_ret (v:=DO.val ⟨false,[],[],0,[],m⟩) (by simp[results,results72,go_sem,DO.val,AW,Bd,bs,a0,a1,a2,a3,a4,s0,s1,s2,s3,s4]) rfl ⟨rfl,?_,?_⟩
 ·repeat (refine Rd.setOther ?_ _ _ (by simp only[ne_eq];omega))
  exact hR1.drewN _
 ·repeat (refine An.setNew ?_ (by simp only[];omega) _)
  exact((((An.refl b w).allocs _).allocs _).trans hK1).draws _
end
section
attribute [local go_sem] Ai Ae
open Go.RowKit
theorem LP(w:World)(b:Nat)(s:ByteArray)(l:B8)(hR:Rd w b s l)(hs:s.size<=281474976710656)(h1:small (hd (Ao l))=true)
 (h2:Bc ((Ao l).drop (Bn AF 12 (Ao l))) 40=false):
 Calls prog 72 #[.pointer (some ⟨b,0,none⟩)] w fun e w'=>e=.returned (Ar s l).val/\Rd w' b s (Ar s l).rest/\An b w w':=by
 have hsm:s.size<=maxLen:=by unfold maxLen;omega
 have hlt:=hR.lt;obtain⟨m,HM⟩:∃m,Hid (m=Ao l):=⟨_,rfl⟩;rw[<-HM.out]at h1 h2;obtain⟨q,HQ⟩:∃q,Hid (q=m.drop (Bn AF 12 m)):=⟨_,rfl⟩;rw[<-HQ.out]at h2;obtain⟨nm,HN⟩:∃nm,Hid (nm=bs (m.take (Bn AF 12 m))):=⟨_,rfl⟩;obtain⟨p,HP⟩:∃p:Nat,Hid (p=Ay s m):=⟨_,rfl⟩;go_enter func72,ntmps72;go_wp2_with (first|(go_at_call 71;refine(Ci _ b s l (by exact(hR.alloc _).alloc _) hsm).mono ?_;rintro e w1 ⟨rfl,hR1,hK1⟩;rw[<-HM.out]at hR1;have hA1:=(Df w zA 54 zS 82).kept hK1 (by omega);have hS1:=(BZ w _ zS 82).kept hK1 (by omega);have c1:=hR1.c1;rw[<-HP.out]at c1;have hz1:w.heap.size+1<w1.heap.size:=hS1.lt)|(go_at_call 91;refine(Ei _ b s m (by exact hR1) hsm).mono ?_;rintro e w' ⟨rfl,n,rfl⟩)|(go_at_call 92;refine(Cw _ _).mono ?_;rintro e w' ⟨rfl,rfl⟩)|(go_at_call 93;refine(H3 _ b s m (by exact(hR1.alloc _).drewN _) hs).mono ?_;rintro e w2 ⟨he,hR2,hK2⟩;rw[<-HN.out]at he;subst he;rw[<-HQ.out]at hR2;clear c1;have hsp2:=((Ag.new w1 [.int .i64 0,.int .i64 p,.int .i64 0,.int .i64 0,.int .i64 0] 82).drewN n).kept hK2 (by omega);have hA2:=((hA1.alloc _).drewN n).kept hK2 (by omega);have hS2:=((hS1.alloc _).drewN n).kept hK2 (by omega);have hz2:w1.heap.size<w2.heap.size:=hsp2.lt)|(go_at_call 73;refine(Cm _ b s q 40 (by exact hR2.alloc _) hsm (by omega)).mono ?_;rintro e w3 ⟨rfl,hR3,hK3⟩;have hat3:=(Ag.new w2 [.string nm,.int .i64 0,.string ⟨#[]⟩,.string ⟨#[]⟩,.string ⟨#[]⟩] 54).kept hK3 (by omega);have hsp3:=(hsp2.alloc _).kept hK3 (by omega);have hA3:=(hA2.alloc _).kept hK3 (by omega);have hS3:=(hS2.alloc _).kept hK3 (by omega);obtain⟨a0,a1,a2,a3,a4⟩:=hA3.c5;have fA:=hA3.frozen;obtain⟨s0,s1,s2,s3,s4⟩:=hS3.c5;have fS:=hS3.frozen;obtain⟨t0,t1,t2,t3,t4⟩:=hat3.c5;obtain⟨p0,p1,p2,p3,p4⟩:=hsp3.c5;clear hA1 hS1 hsp2 hA2 hS2 hat3 hsp3 hA3 hS3;have HK3:Hid (An b w w3):=((((((An.refl b w).allocs _).allocs _).trans hK1).allocs _).draws _|>.trans hK2|>.allocs _).trans hK3;clear hK1 hK2 hK3));go_region;go_wp2;have er:Ar s l=⟨true,m.take (Bn AF 12 m),[],Ay s m,[],Av q 40⟩:=by simp[Ar,<-HM.out,h1,<-HQ.out,h2]
 rw[er];refine bodyPost_ret (v:=DO.val ⟨true,m.take (Bn AF 12 m),[],Ay s m,[],Av q 40⟩) (by simp[results,results72,go_sem,DO.val,AW,Bd,bs,<-HP.out,HN.out,a0,a1,a2,a3,a4,s0,s1,s2,s3,s4]) rfl ⟨rfl,?_,?_⟩
 ·exact Rd.drew ((hR3.set5 _ (by omega) _ _ _ _ _).set5 _ (by omega) _ _ _ _ _)
 ·exact((HK3.out.set5 _ (by omega) _ _ _ _ _).set5 _ (by omega) _ _ _ _ _).drewn
end
end Go.Proofs.YtpbfiffgcgnidaaGreat
