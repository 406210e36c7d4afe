import Derived.Test.YtpbfiffgcgnidaaGreatYal
import Derived.Deep.CutRange
import Derived.Maps.OwnSet
import Derived.Maps.Keyed
import Derived.Test.YtpbfiffgcgnidaaGreatY7
namespace Go.Proofs.YtpbfiffgcgnidaaGreat
set_option maxRecDepth 100000
set_option maxHeartbeats 4000000
set_option linter.unusedSimpArgs false
open Go.Proofs.Tryz
section
attribute [local go_sem] Ai Ae
open Go.RowKit
def cnt(w:World)(b:Nat):Nat:=(intOf ((w.cell? ⟨b,1,none⟩).getD .nilIface)).toNat
theorem LQ(w:World)(b:Nat)(s:ByteArray)(l:B8)(hR:Rd w b s l)(hs:s.size<=281474976710656)(h1:small (hd (Ao l))=true)
 (h2:Bc ((Ao l).drop (Bn AF 12 (Ao l))) 40=true):
 Calls prog 72 #[.pointer (some ⟨b,0,none⟩)] w fun e w'=>e=.returned (Ar s l).val/\Rd w' b s (Ar s l).rest/\An b w w':=by
 have hsm:s.size<=maxLen:=by unfold maxLen;omega
 have hlt:=hR.lt;obtain⟨m,HM⟩:∃m,Hid (m=Ao l):=⟨_,rfl⟩;rw[<-HM.out]at h1 h2;obtain⟨q,HQ⟩:∃q,Hid (q=m.drop (Bn AF 12 m)):=⟨_,rfl⟩;rw[<-HQ.out]at h2;obtain⟨nl,HNL⟩:∃nl,Hid (nl=m.take (Bn AF 12 m)):=⟨_,rfl⟩;obtain⟨nm,HN⟩:∃nm,Hid (nm=bs (m.take (Bn AF 12 m))):=⟨_,rfl⟩;obtain⟨p,HP⟩:∃p:Nat,Hid (p=Ay s m):=⟨_,rfl⟩;go_enter func72,ntmps72;go_wp2_with (first|(go_at_call 71;refine(Ci _ b s l (by exact(hR.alloc _).alloc _) hsm).mono ?_;rintro e w1 ⟨rfl,hR1,hK1⟩;rw[<-HM.out]at hR1;have hA1:=(Df w zA 54 zS 82).kept hK1 (by omega);have hS1:=(BZ w _ zS 82).kept hK1 (by omega);have c1:=hR1.c1;rw[<-HP.out]at c1;have hz1:w.heap.size+1<w1.heap.size:=hS1.lt)|(go_at_call 91;refine(Ei _ b s m (by exact hR1) hsm).mono ?_;rintro e w' ⟨rfl,n,rfl⟩)|(go_at_call 92;refine(Cw _ _).mono ?_;rintro e w' ⟨rfl,rfl⟩)|(go_at_call 93;refine(H3 _ b s m (by exact(hR1.alloc _).drewN _) hs).mono ?_;rintro e w2 ⟨he,hR2,hK2⟩;rw[<-HN.out]at he;subst he;rw[<-HQ.out]at hR2;clear c1;have hsp2:=((Ag.new w1 [.int .i64 0,.int .i64 p,.int .i64 0,.int .i64 0,.int .i64 0] 82).drewN n).kept hK2 (by omega);have hA2:=((hA1.alloc _).drewN n).kept hK2 (by omega);have hS2:=((hS1.alloc _).drewN n).kept hK2 (by omega);have hz2:w1.heap.size<w2.heap.size:=hsp2.lt)|(go_at_call 73;refine(Cm _ b s q 40 (by exact hR2.alloc _) hsm (by omega)).mono ?_;rintro e w3 ⟨rfl,hR3,hK3⟩;have hat3:=(Ag.new w2 [.string nm,.int .i64 0,.string ⟨#[]⟩,.string ⟨#[]⟩,.string ⟨#[]⟩] 54).kept hK3 (by omega);have hsp3:=(hsp2.alloc _).kept hK3 (by omega);have hA3:=(hA2.alloc _).kept hK3 (by omega);have hS3:=(hS2.alloc _).kept hK3 (by omega);clear hA1 hS1 hsp2 hA2 hS2;have HK3:Hid (An b w w3):=((((((An.refl b w).allocs _).allocs _).trans hK1).allocs _).draws _|>.trans hK2|>.allocs _).trans hK3;clear hK1 hK2 hK3));obtain⟨q2,HQ2⟩:∃q2,Hid (q2=Av q 40):=⟨_,rfl⟩;rw[<-HQ2.out]at hR3;have HR:Hid (Ar s l=BO s nl p 3 [] [] q2):=by show Ar s l=BO s nl p 3 [] [] q2;simp[Ar,<-HM.out,h1,<-HQ.out,h2,HNL.out,HP.out,HQ2.out]
 have HA3:Hid (Ag w3 w.heap.size zA 54):=hA3;have HS3:Hid (Ag w3 (w.heap.size+1) zS 82):=hS3;have HT3:Hid (Ag w3 w2.heap.size (AW nl []) 54):=by rw[HN.out,<-HNL.out]at hat3;exact hat3
 have HP3:Hid (Ag w3 w1.heap.size (Bd 0 p []) 82):=hsp3;clear hA3 hS3 hat3 hsp3
 go_loopw [] (fun wr=>∃(ts:List B8) (ps:List Nat) (r:B8),ts.length=ps.length/\ts.length<3/\Hid (BO s nl p (3-ts.length) ts ps r=BO s nl p 3 [] [] q2)/\Rd wr b s r/\Hid (Ag wr w.heap.size zA 54)/\Hid (Ag wr (w.heap.size+1) zS 82)/\Hid (Ag wr w2.heap.size (AW nl ts) 54)/\Hid (Ag wr w1.heap.size (Bd 0 p ps) 82)/\Hid (An b w wr)) (fun wr=>3-cnt wr w2.heap.size)
 case atStart=>exact⟨[],[],q2,rfl,by decide,rfl,hR3,HA3,HS3,HT3,HP3,HK3⟩
 case round=>
  clear HA3 HS3 HT3 HP3 HK3 hR3 hR2 hR1;obtain⟨ts,ps,r,hlen,hl3,HA,hRr,HA3,HS3,HT3,HP3,HK⟩:=hrel;cases hb:FN r
  ·have HE:Hid (Ar s l=⟨false,[],[],0,[],A8 r⟩):=by show Ar s l=_;rw[HR.out,<-HA.out];obtain⟨f,hf⟩:∃f,3-ts.length=f+1:=⟨2-ts.length,by omega⟩;rw[hf];simp[BO,hb]
   go_wp2_with (go_at_call 95;refine(Mf _ b s r (by exact hRr) hs hb).mono ?_;rintro e w4 ⟨rfl,hR4,hK4⟩;have HA4:=HA3.out.kept hK4 (by omega);have HS4:=HS3.out.kept hK4 (by omega);have KK4:=HK.out.trans hK4;obtain⟨a0,a1,a2,a3,a4⟩:=HA4.c5;have fA:=HA4.frozen;obtain⟨s0,s1,s2,s3,s4⟩:=HS4.c5;have fS:=HS4.frozen);rw[HE.out];exact bodyPost_ret (v:=DO.val ⟨false,[],[],0,[],A8 r⟩) (by simp[results,results72,go_sem,DO.val,AW,Bd,bs,a0,a1,a2,a3,a4,s0,s1,s2,s3,s4]) rfl ⟨rfl,(hR4.set5 _ (by omega) _ _ _ _ _).set5 _ (by omega) _ _ _ _ _,(KK4.set5 _ (by omega) _ _ _ _ _).set5 _ (by omega) _ _ _ _ _⟩
  ·match ts,ps,hlen,hl3 with
   |[],[],_,_=>
    go_wp2_with (go_at_call 95;refine(Gf _ b s r (by exact hRr) hs hb).mono ?_;rintro e w4 ⟨rfl,hR4,hK4⟩;have HA4:=HA3.out.kept hK4 (by omega);have HS4:=HS3.out.kept hK4 (by omega);have HT4:=HT3.out.kept hK4 (by omega);have HP4:=HP3.out.kept hK4 (by omega);have KK4:=HK.out.trans hK4;obtain⟨t0,t1,t2,t3,t4⟩:=HT4.c5;obtain⟨p0,p1,p2,p3,p4⟩:=HP4.c5;have fT:=HT4.frozen;have fP:=HP4.frozen);go_region;go_wp2_with fail;have HTW:Ag ((((w4.setCell ⟨w1.heap.size,2,none⟩ (.int .i64 (Ay s (Ao r)))).setCell ⟨w2.heap.size,2,none⟩ (.string (bs (AZ r)))).setCell ⟨w2.heap.size,1,none⟩ (.int .i64 1)).drew) w2.heap.size (AW nl [AZ r]) 54:=(((HT4.setOther ⟨w1.heap.size,2,none⟩ _ (by simp only[ne_eq];omega)).setCell 2 _).setCell 1 _).drew;have HPW:Ag ((((w4.setCell ⟨w1.heap.size,2,none⟩ (.int .i64 (Ay s (Ao r)))).setCell ⟨w2.heap.size,2,none⟩ (.string (bs (AZ r)))).setCell ⟨w2.heap.size,1,none⟩ (.int .i64 1)).drew) w1.heap.size (Bd 0 p [Ay s (Ao r)]) 82:=(((HP4.setCell 2 _).setOther ⟨w2.heap.size,2,none⟩ _ (by simp only[ne_eq];omega)).setOther ⟨w2.heap.size,1,none⟩ _ (by simp only[ne_eq];omega)).drew;have HAW:Ag ((((w4.setCell ⟨w1.heap.size,2,none⟩ (.int .i64 (Ay s (Ao r)))).setCell ⟨w2.heap.size,2,none⟩ (.string (bs (AZ r)))).setCell ⟨w2.heap.size,1,none⟩ (.int .i64 1)).drew) w.heap.size zA 54:=(((HA4.setOther ⟨w1.heap.size,2,none⟩ _ (by simp only[ne_eq];omega)).setOther ⟨w2.heap.size,2,none⟩ _ (by simp only[ne_eq];omega)).setOther ⟨w2.heap.size,1,none⟩ _ (by simp only[ne_eq];omega)).drew;have HSW:Ag ((((w4.setCell ⟨w1.heap.size,2,none⟩ (.int .i64 (Ay s (Ao r)))).setCell ⟨w2.heap.size,2,none⟩ (.string (bs (AZ r)))).setCell ⟨w2.heap.size,1,none⟩ (.int .i64 1)).drew) (w.heap.size+1) zS 82:=(((HS4.setOther ⟨w1.heap.size,2,none⟩ _ (by simp only[ne_eq];omega)).setOther ⟨w2.heap.size,2,none⟩ _ (by simp only[ne_eq];omega)).setOther ⟨w2.heap.size,1,none⟩ _ (by simp only[ne_eq];omega)).drew;have HRW:Rd ((((w4.setCell ⟨w1.heap.size,2,none⟩ (.int .i64 (Ay s (Ao r)))).setCell ⟨w2.heap.size,2,none⟩ (.string (bs (AZ r)))).setCell ⟨w2.heap.size,1,none⟩ (.int .i64 1)).drew) b s (A8 r):=(((hR4.setOther ⟨w1.heap.size,2,none⟩ _ (by simp only[ne_eq];omega)).setOther ⟨w2.heap.size,2,none⟩ _ (by simp only[ne_eq];omega)).setOther ⟨w2.heap.size,1,none⟩ _ (by simp only[ne_eq];omega)).drew;have HKW:An b w ((((w4.setCell ⟨w1.heap.size,2,none⟩ (.int .i64 (Ay s (Ao r)))).setCell ⟨w2.heap.size,2,none⟩ (.string (bs (AZ r)))).setCell ⟨w2.heap.size,1,none⟩ (.int .i64 1)).drew):=(((KK4.setNew (p:=⟨w1.heap.size,2,none⟩) (by simp only[];omega) _).setNew (p:=⟨w2.heap.size,2,none⟩) (by simp only[];omega) _).setNew (p:=⟨w2.heap.size,1,none⟩) (by simp only[];omega) _).drewn;refine(Cm _ b s (A8 r) 44 (by exact HRW) hsm (by omega)).mono ?_;rintro e w5 ⟨rfl,hR5,hK5⟩;have HT5:=HTW.kept hK5 (by omega);have HP5:=HPW.kept hK5 (by omega);have HA5:=HAW.kept hK5 (by omega);have HS5:=HSW.kept hK5 (by omega);have HK5:=HKW.trans hK5;clear HTW HPW HAW HSW HRW HKW t0 t1 t2 t3 t4 p0 p1 p2 p3 p4 fT fP HT4 HP4 HA4 HS4 KK4 hK4 hR4;cases hc:Bc (A8 r) 44
    ·have HE:Hid (Ar s l=⟨Bc (Av (A8 r) 44) 41,nl,[AZ r],p,[Ay s (Ao r)],Av (Av (A8 r) 44) 41⟩):=by show Ar s l=_;rw[HR.out,<-HA.out];show BO s nl p (2+1) [] [] r=_;simp[BO,hb,hc]
     obtain⟨t0,t1,t2,t3,t4⟩:=HT5.c5;obtain⟨p0,p1,p2,p3,p4⟩:=HP5.c5;go_wp2_with fail
     go_region_with (go_at_call 73;refine(Cm _ b s (Av (A8 r) 44) 41 (by exact hR5.drew) hsm (by omega)).mono ?_;rintro e w6 ⟨rfl,hR6,hK6⟩;have HT6:=HT5.drew.kept hK6 (by omega);have HP6:=HP5.drew.kept hK6 (by omega);have HA6:=HA5.drew.kept hK6 (by omega);have HS6:=HS5.drew.kept hK6 (by omega);have KK6:=HK5.drewn.trans hK6;obtain⟨t0',t1',t2',t3',t4'⟩:=HT6.c5;obtain⟨p0',p1',p2',p3',p4'⟩:=HP6.c5;obtain⟨a0,a1,a2,a3,a4⟩:=HA6.c5;have fA:=HA6.frozen;obtain⟨s0,s1,s2,s3,s4⟩:=HS6.c5;have fS:=HS6.frozen)
     all_goals go_wp2
     all_goals rw[HE.out]
     all_goals exact bodyPost_ret (v:=DO.val ⟨Bc (Av (A8 r) 44) 41,nl,[AZ r],p,[Ay s (Ao r)],Av (Av (A8 r) 44) 41⟩) (by simp[results,results72,go_sem,DO.val,AW,Bd,a0,a1,a2,a3,a4,s0,s1,s2,s3,s4]) rfl ⟨rfl,(hR6.set5 _ (by omega) _ _ _ _ _).set5 _ (by omega) _ _ _ _ _,(KK6.set5 _ (by omega) _ _ _ _ _).set5 _ (by omega) _ _ _ _ _⟩
    ·have HX:Hid (BO s nl p (3- [AZ r].length) [AZ r] [Ay s (Ao r)] (Av (A8 r) 44)=BO s nl p 3 [] [] q2):=by show BO s nl p (3- [AZ r].length) [AZ r] [Ay s (Ao r)] (Av (A8 r) 44)=_;rw[<-HA.out];show _=BO s nl p (2+1) [] [] r;simp[BO,hb,hc]
     go_wp2_with fail;exact⟨⟨[AZ r],[Ay s (Ao r)],Av (A8 r) 44,rfl,by simp,HX,hR5,HA5,HS5,HT5,HP5,HK5⟩,by have e1:=HT5.cell 1;have e2:=HT3.out.cell 1;simp[cnt,e1,e2,AW,intOf]⟩
   |[x],[px],_,_=>
    go_wp2_with (go_at_call 95;refine(Gf _ b s r (by exact hRr) hs hb).mono ?_;rintro e w4 ⟨rfl,hR4,hK4⟩;have HA4:=HA3.out.kept hK4 (by omega);have HS4:=HS3.out.kept hK4 (by omega);have HT4:=HT3.out.kept hK4 (by omega);have HP4:=HP3.out.kept hK4 (by omega);have KK4:=HK.out.trans hK4;obtain⟨t0,t1,t2,t3,t4⟩:=HT4.c5;obtain⟨p0,p1,p2,p3,p4⟩:=HP4.c5;have fT:=HT4.frozen;have fP:=HP4.frozen);go_region;go_wp2_with fail;have HTW:Ag ((((w4.setCell ⟨w1.heap.size,3,none⟩ (.int .i64 (Ay s (Ao r)))).setCell ⟨w2.heap.size,3,none⟩ (.string (bs (AZ r)))).setCell ⟨w2.heap.size,1,none⟩ (.int .i64 2)).drew) w2.heap.size (AW nl [x,AZ r]) 54:=(((HT4.setOther ⟨w1.heap.size,3,none⟩ _ (by simp only[ne_eq];omega)).setCell 3 _).setCell 1 _).drew;have HPW:Ag ((((w4.setCell ⟨w1.heap.size,3,none⟩ (.int .i64 (Ay s (Ao r)))).setCell ⟨w2.heap.size,3,none⟩ (.string (bs (AZ r)))).setCell ⟨w2.heap.size,1,none⟩ (.int .i64 2)).drew) w1.heap.size (Bd 0 p [px,Ay s (Ao r)]) 82:=(((HP4.setCell 3 _).setOther ⟨w2.heap.size,3,none⟩ _ (by simp only[ne_eq];omega)).setOther ⟨w2.heap.size,1,none⟩ _ (by simp only[ne_eq];omega)).drew;have HAW:Ag ((((w4.setCell ⟨w1.heap.size,3,none⟩ (.int .i64 (Ay s (Ao r)))).setCell ⟨w2.heap.size,3,none⟩ (.string (bs (AZ r)))).setCell ⟨w2.heap.size,1,none⟩ (.int .i64 2)).drew) w.heap.size zA 54:=(((HA4.setOther ⟨w1.heap.size,3,none⟩ _ (by simp only[ne_eq];omega)).setOther ⟨w2.heap.size,3,none⟩ _ (by simp only[ne_eq];omega)).setOther ⟨w2.heap.size,1,none⟩ _ (by simp only[ne_eq];omega)).drew;have HSW:Ag ((((w4.setCell ⟨w1.heap.size,3,none⟩ (.int .i64 (Ay s (Ao r)))).setCell ⟨w2.heap.size,3,none⟩ (.string (bs (AZ r)))).setCell ⟨w2.heap.size,1,none⟩ (.int .i64 2)).drew) (w.heap.size+1) zS 82:=(((HS4.setOther ⟨w1.heap.size,3,none⟩ _ (by simp only[ne_eq];omega)).setOther ⟨w2.heap.size,3,none⟩ _ (by simp only[ne_eq];omega)).setOther ⟨w2.heap.size,1,none⟩ _ (by simp only[ne_eq];omega)).drew;have HRW:Rd ((((w4.setCell ⟨w1.heap.size,3,none⟩ (.int .i64 (Ay s (Ao r)))).setCell ⟨w2.heap.size,3,none⟩ (.string (bs (AZ r)))).setCell ⟨w2.heap.size,1,none⟩ (.int .i64 2)).drew) b s (A8 r):=(((hR4.setOther ⟨w1.heap.size,3,none⟩ _ (by simp only[ne_eq];omega)).setOther ⟨w2.heap.size,3,none⟩ _ (by simp only[ne_eq];omega)).setOther ⟨w2.heap.size,1,none⟩ _ (by simp only[ne_eq];omega)).drew;have HKW:An b w ((((w4.setCell ⟨w1.heap.size,3,none⟩ (.int .i64 (Ay s (Ao r)))).setCell ⟨w2.heap.size,3,none⟩ (.string (bs (AZ r)))).setCell ⟨w2.heap.size,1,none⟩ (.int .i64 2)).drew):=(((KK4.setNew (p:=⟨w1.heap.size,3,none⟩) (by simp only[];omega) _).setNew (p:=⟨w2.heap.size,3,none⟩) (by simp only[];omega) _).setNew (p:=⟨w2.heap.size,1,none⟩) (by simp only[];omega) _).drewn;refine(Cm _ b s (A8 r) 44 (by exact HRW) hsm (by omega)).mono ?_;rintro e w5 ⟨rfl,hR5,hK5⟩;have HT5:=HTW.kept hK5 (by omega);have HP5:=HPW.kept hK5 (by omega);have HA5:=HAW.kept hK5 (by omega);have HS5:=HSW.kept hK5 (by omega);have HK5:=HKW.trans hK5;clear HTW HPW HAW HSW HRW HKW t0 t1 t2 t3 t4 p0 p1 p2 p3 p4 fT fP HT4 HP4 HA4 HS4 KK4 hK4 hR4;cases hc:Bc (A8 r) 44
    ·have HE:Hid (Ar s l=⟨Bc (Av (A8 r) 44) 41,nl,[x,AZ r],p,[px,Ay s (Ao r)],Av (Av (A8 r) 44) 41⟩):=by show Ar s l=_;rw[HR.out,<-HA.out];show BO s nl p (1+1) [x] [px] r=_;simp[BO,hb,hc]
     obtain⟨t0,t1,t2,t3,t4⟩:=HT5.c5;obtain⟨p0,p1,p2,p3,p4⟩:=HP5.c5;go_wp2_with fail
     go_region_with (go_at_call 73;refine(Cm _ b s (Av (A8 r) 44) 41 (by exact hR5.drew) hsm (by omega)).mono ?_;rintro e w6 ⟨rfl,hR6,hK6⟩;have HT6:=HT5.drew.kept hK6 (by omega);have HP6:=HP5.drew.kept hK6 (by omega);have HA6:=HA5.drew.kept hK6 (by omega);have HS6:=HS5.drew.kept hK6 (by omega);have KK6:=HK5.drewn.trans hK6;obtain⟨t0',t1',t2',t3',t4'⟩:=HT6.c5;obtain⟨p0',p1',p2',p3',p4'⟩:=HP6.c5;obtain⟨a0,a1,a2,a3,a4⟩:=HA6.c5;have fA:=HA6.frozen;obtain⟨s0,s1,s2,s3,s4⟩:=HS6.c5;have fS:=HS6.frozen)
     all_goals go_wp2
     all_goals rw[HE.out]
     all_goals exact bodyPost_ret (v:=DO.val ⟨Bc (Av (A8 r) 44) 41,nl,[x,AZ r],p,[px,Ay s (Ao r)],Av (Av (A8 r) 44) 41⟩) (by simp[results,results72,go_sem,DO.val,AW,Bd,a0,a1,a2,a3,a4,s0,s1,s2,s3,s4]) rfl ⟨rfl,(hR6.set5 _ (by omega) _ _ _ _ _).set5 _ (by omega) _ _ _ _ _,(KK6.set5 _ (by omega) _ _ _ _ _).set5 _ (by omega) _ _ _ _ _⟩
    ·have HX:Hid (BO s nl p (3- [x,AZ r].length) [x,AZ r] [px,Ay s (Ao r)] (Av (A8 r) 44)=BO s nl p 3 [] [] q2):=by show BO s nl p (3- [x,AZ r].length) [x,AZ r] [px,Ay s (Ao r)] (Av (A8 r) 44)=_;rw[<-HA.out];show _=BO s nl p (1+1) [x] [px] r;simp[BO,hb,hc]
     go_wp2_with fail;exact⟨⟨[x,AZ r],[px,Ay s (Ao r)],Av (A8 r) 44,rfl,by simp,HX,hR5,HA5,HS5,HT5,HP5,HK5⟩,by have e1:=HT5.cell 1;have e2:=HT3.out.cell 1;simp[cnt,e1,e2,AW,intOf]⟩
   |[x,y],[px,py],_,_=>
    have HE:Hid (Ar s l=⟨Bc (A8 r) 41,nl,[x,y,AZ r],p,[px,py,Ay s (Ao r)],Av (A8 r) 41⟩):=by show Ar s l=_;rw[HR.out,<-HA.out];show BO s nl p (0+1) [x,y] [px,py] r=_;simp[BO,hb]
    go_wp2_with (go_at_call 95;refine(Gf _ b s r (by exact hRr) hs hb).mono ?_;rintro e w4 ⟨rfl,hR4,hK4⟩;have HA4:=HA3.out.kept hK4 (by omega);have HS4:=HS3.out.kept hK4 (by omega);have HT4:=HT3.out.kept hK4 (by omega);have HP4:=HP3.out.kept hK4 (by omega);have KK4:=HK.out.trans hK4;obtain⟨t0,t1,t2,t3,t4⟩:=HT4.c5;obtain⟨p0,p1,p2,p3,p4⟩:=HP4.c5;have fT:=HT4.frozen;have fP:=HP4.frozen);go_region;go_wp2_with fail;have HTW:Ag ((((w4.setCell ⟨w1.heap.size,4,none⟩ (.int .i64 (Ay s (Ao r)))).setCell ⟨w2.heap.size,4,none⟩ (.string (bs (AZ r)))).setCell ⟨w2.heap.size,1,none⟩ (.int .i64 3)).drew) w2.heap.size (AW nl [x,y,AZ r]) 54:=(((HT4.setOther ⟨w1.heap.size,4,none⟩ _ (by simp only[ne_eq];omega)).setCell 4 _).setCell 1 _).drew;have HPW:Ag ((((w4.setCell ⟨w1.heap.size,4,none⟩ (.int .i64 (Ay s (Ao r)))).setCell ⟨w2.heap.size,4,none⟩ (.string (bs (AZ r)))).setCell ⟨w2.heap.size,1,none⟩ (.int .i64 3)).drew) w1.heap.size (Bd 0 p [px,py,Ay s (Ao r)]) 82:=(((HP4.setCell 4 _).setOther ⟨w2.heap.size,4,none⟩ _ (by simp only[ne_eq];omega)).setOther ⟨w2.heap.size,1,none⟩ _ (by simp only[ne_eq];omega)).drew;have HAW:Ag ((((w4.setCell ⟨w1.heap.size,4,none⟩ (.int .i64 (Ay s (Ao r)))).setCell ⟨w2.heap.size,4,none⟩ (.string (bs (AZ r)))).setCell ⟨w2.heap.size,1,none⟩ (.int .i64 3)).drew) w.heap.size zA 54:=(((HA4.setOther ⟨w1.heap.size,4,none⟩ _ (by simp only[ne_eq];omega)).setOther ⟨w2.heap.size,4,none⟩ _ (by simp only[ne_eq];omega)).setOther ⟨w2.heap.size,1,none⟩ _ (by simp only[ne_eq];omega)).drew;have HSW:Ag ((((w4.setCell ⟨w1.heap.size,4,none⟩ (.int .i64 (Ay s (Ao r)))).setCell ⟨w2.heap.size,4,none⟩ (.string (bs (AZ r)))).setCell ⟨w2.heap.size,1,none⟩ (.int .i64 3)).drew) (w.heap.size+1) zS 82:=(((HS4.setOther ⟨w1.heap.size,4,none⟩ _ (by simp only[ne_eq];omega)).setOther ⟨w2.heap.size,4,none⟩ _ (by simp only[ne_eq];omega)).setOther ⟨w2.heap.size,1,none⟩ _ (by simp only[ne_eq];omega)).drew;have HRW:Rd ((((w4.setCell ⟨w1.heap.size,4,none⟩ (.int .i64 (Ay s (Ao r)))).setCell ⟨w2.heap.size,4,none⟩ (.string (bs (AZ r)))).setCell ⟨w2.heap.size,1,none⟩ (.int .i64 3)).drew) b s (A8 r):=(((hR4.setOther ⟨w1.heap.size,4,none⟩ _ (by simp only[ne_eq];omega)).setOther ⟨w2.heap.size,4,none⟩ _ (by simp only[ne_eq];omega)).setOther ⟨w2.heap.size,1,none⟩ _ (by simp only[ne_eq];omega)).drew;have HKW:An b w ((((w4.setCell ⟨w1.heap.size,4,none⟩ (.int .i64 (Ay s (Ao r)))).setCell ⟨w2.heap.size,4,none⟩ (.string (bs (AZ r)))).setCell ⟨w2.heap.size,1,none⟩ (.int .i64 3)).drew):=(((KK4.setNew (p:=⟨w1.heap.size,4,none⟩) (by simp only[];omega) _).setNew (p:=⟨w2.heap.size,4,none⟩) (by simp only[];omega) _).setNew (p:=⟨w2.heap.size,1,none⟩) (by simp only[];omega) _).drewn;clear HT4 HP4 HA4 HS4 KK4 hK4 hR4;generalize hWW:((((w4.setCell ⟨w1.heap.size,4,none⟩ (.int .i64 (Ay s (Ao r)))).setCell ⟨w2.heap.size,4,none⟩ (.string (bs (AZ r)))).setCell ⟨w2.heap.size,1,none⟩ (.int .i64 3)).drew)=w5 at*;have HT5:=HTW;have HP5:=HPW;have HA5:=HAW;have HS5:=HSW;have hR5:=HRW;have HK5:=HKW;clear hWW HTW HPW HAW HSW HRW HKW t0 t1 t2 t3 t4 p0 p1 p2 p3 p4 fT fP;obtain⟨t0,t1,t2,t3,t4⟩:=HT5.c5;obtain⟨p0,p1,p2,p3,p4⟩:=HP5.c5
    go_region_with (go_at_call 73;refine(Cm _ b s (A8 r) 41 (by exact hR5.drew) hsm (by omega)).mono ?_;rintro e w6 ⟨rfl,hR6,hK6⟩;have HT6:=HT5.drew.kept hK6 (by omega);have HP6:=HP5.drew.kept hK6 (by omega);have HA6:=HA5.drew.kept hK6 (by omega);have HS6:=HS5.drew.kept hK6 (by omega);have KK6:=HK5.drewn.trans hK6;obtain⟨t0',t1',t2',t3',t4'⟩:=HT6.c5;obtain⟨p0',p1',p2',p3',p4'⟩:=HP6.c5;obtain⟨a0,a1,a2,a3,a4⟩:=HA6.c5;have fA:=HA6.frozen;obtain⟨s0,s1,s2,s3,s4⟩:=HS6.c5;have fS:=HS6.frozen)
    all_goals go_wp2
    all_goals rw[HE.out]
    all_goals exact bodyPost_ret (v:=DO.val ⟨Bc (A8 r) 41,nl,[x,y,AZ r],p,[px,py,Ay s (Ao r)],Av (A8 r) 41⟩) (by simp[results,results72,go_sem,DO.val,AW,Bd,a0,a1,a2,a3,a4,s0,s1,s2,s3,s4]) rfl ⟨rfl,(hR6.set5 _ (by omega) _ _ _ _ _).set5 _ (by omega) _ _ _ _ _,(KK6.set5 _ (by omega) _ _ _ _ _).set5 _ (by omega) _ _ _ _ _⟩
end
section
open Go.RowKit
theorem EX(w:World)(b:Nat)(s:ByteArray)(l:B8)(hR:Rd w b s l)(hs:s.size<=281474976710656):
 Calls prog 72 #[.pointer (some ⟨b,0,none⟩)] w fun e w'=>e=.returned (Ar s l).val/\Rd w' b s (Ar s l).rest/\An b w w':=by
 cases h1:small (hd (Ao l))
 ·exact N9 w b s l hR hs h1
 ·cases h2:Bc ((Ao l).drop (Bn AF 12 (Ao l))) 40
  ·exact LP w b s l hR hs h1 h2
  ·exact LQ w b s l hR hs h1 h2
end
section
attribute [local go_sem] Ai Ae
open Go.RowKit
def I6(n:B8)(ts:List B8)(neg:Bool):List Value:=
 [.string (bs n),.int .i64 ts.length,.string (bs (ts.getD 0 [])),.string (bs (ts.getD 1 [])),.string (bs (ts.getD 2 [])),.bool neg]
def En(l:B8):Bool:=Bc l 33
def Fg(s:ByteArray)(l:B8):Nat:=if Bc l 33=true then Ay s (Av l 33)-1 else 0
def A0(s:ByteArray)(l:B8):DO:=Ar s (Av l 33)
def Em(s:ByteArray)(l:B8):Value:=
 .tuple #[.agg (I6 (A0 s l).name (A0 s l).ts (En l)).toArray,.agg (Bd (Fg s l) (A0 s l).np (A0 s l).ps).toArray,.bool (A0 s l).ok]
theorem Ml(l:B8):(Ao l).length<=l.length:=by
 induction l with
 |nil=>exact Nat.le_refl _
 |cons c l ih=>unfold Ao;split<;>simp<;>omega
theorem Me(l:B8)(m:Int)(h:Bc l m=true)(hm:0<m):(Av l m).length<l.length:=by
 have h':=h;unfold Bc at h;have hl:=Ml l;simp only[Av,h',if_pos]
 cases hs:Ao l with
 |nil=>rw[hs]at h;simp[hd]at h;omega
 |cons c r=>rw[hs]at hl;simp at hl⊢;omega
theorem Rd.len{w:World}{b:Nat}{s:ByteArray}{l:B8}(h:Rd w b s l):l.length<=s.size:=by obtain⟨i,hi,rfl,hr⟩:=h;simp
def DO.nm(r:DO):ByteArray:=bs r.name
def DO.cn(r:DO):Int:=r.ts.length
def DO.t(r:DO)(i:Nat):ByteArray:=bs (r.ts.getD i [])
def DO.np'(r:DO):Int:=r.np
def DO.p(r:DO)(i:Nat):Int:=(r.ps.getD i 0:Nat)
theorem DO.val_eq(r:DO):r.val=.tuple #[.agg #[.string r.nm,.int .i64 r.cn,.string (r.t 0),.string (r.t 1),.string (r.t 2)],.agg #[.int .i64 0,.int .i64 r.np',.int .i64 (r.p 0),.int .i64 (r.p 1),.int .i64 (r.p 2)],.bool r.ok]:=rfl
theorem Lp(s:ByteArray)(l r0:B8)(A:DO)(h0:r0=Av l 33)(hA:A=Ar s r0)(h1:Bc l 33=false):
 Em s l=.tuple #[.agg #[.string A.nm,.int .i64 A.cn,.string (A.t 0),.string (A.t 1),.string (A.t 2),.bool false],.agg #[.int .i64 0,.int .i64 A.np',.int .i64 (A.p 0),.int .i64 (A.p 1),.int .i64 (A.p 2)],.bool A.ok]:=by
 subst h0;subst hA;simp only[Em,En,Fg,h1];rfl
theorem Kc(s:ByteArray)(l r0:B8)(A:DO)(h0:r0=Av l 33)(hA:A=Ar s r0)(h1:Bc l 33=true)(hp:1<=Ay s r0):
 Em s l=.tuple #[.agg #[.string A.nm,.int .i64 A.cn,.string (A.t 0),.string (A.t 1),.string (A.t 2),.bool true],.agg #[.int .i64 ((Ay s r0:Int)-1),.int .i64 A.np',.int .i64 (A.p 0),.int .i64 (A.p 1),.int .i64 (A.p 2)],.bool A.ok]:=by
 have e:((Ay s r0:Nat):Int)-1=((Ay s r0-1:Nat):Int):=by omega
 rw[e];subst h0;subst hA;simp only[Em,En,Fg,h1];rfl
theorem An.set6{b:Nat}{u w:World}(h:An b u w)(A:Nat)(hA:u.heap.size<=A)(x0 x1 x2 x3 x4 x5:Value):
 An b u ((((((w.setCell ⟨A,0,none⟩ x0).setCell ⟨A,1,none⟩ x1).setCell ⟨A,2,none⟩ x2).setCell ⟨A,3,none⟩ x3).setCell ⟨A,4,none⟩ x4).setCell ⟨A,5,none⟩ x5):=
 (h.set5 A hA x0 x1 x2 x3 x4).setNew (p:=⟨A,5,none⟩) hA x5
theorem Rd.set6{w:World}{b:Nat}{s:ByteArray}{l:B8}(h:Rd w b s l)(A:Nat)(hA:b≠A)(x0 x1 x2 x3 x4 x5:Value):
 Rd ((((((w.setCell ⟨A,0,none⟩ x0).setCell ⟨A,1,none⟩ x1).setCell ⟨A,2,none⟩ x2).setCell ⟨A,3,none⟩ x3).setCell ⟨A,4,none⟩ x4).setCell ⟨A,5,none⟩ x5) b s l:=
 (h.set5 A hA x0 x1 x2 x3 x4).setOther ⟨A,5,none⟩ x5 hA
def zL:List Value:=[.string ⟨#[]⟩,.int .i64 0,.string ⟨#[]⟩,.string ⟨#[]⟩,.string ⟨#[]⟩,.bool false]
theorem Kb(w:World)(b:Nat)(s:ByteArray)(l:B8)(hR:Rd w b s l)(hs:s.size<=281474976710656)(h1:Bc l 33=false):
 Calls prog 96 #[.pointer (some ⟨b,0,none⟩)] w fun e w'=>e=.returned (Em s l)/\Rd w' b s (A0 s l).rest/\An b w w':=by
 have hsm:s.size<=maxLen:=by unfold maxLen;omega
 have hlt:=hR.lt;have hll:=hR.len;obtain⟨r0,H0⟩:∃r0,Hid (r0=Av l 33):=⟨_,rfl⟩;obtain⟨A,HA⟩:∃A,Hid (A=Ar s r0):=⟨_,rfl⟩;have HE2:Hid ((A0 s l).rest=A.rest):=by show(A0 s l).rest=_;simp[A0,<-H0.out,<-HA.out]
 rw[Lp s l r0 A H0.out HA.out h1,HE2.out];go_enter func96,ntmps96;go_wp2_with (first|(go_at_call 73;refine(Cm _ b s l 33 (by exact(hR.alloc _).alloc _) hsm (by omega)).mono ?_;rintro e w1 ⟨rfl,hR1,hK1⟩;rw[<-H0.out]at hR1;have c1:=hR1.c1;have hA1:=(Df w zL 130 zS 82).kept hK1 (by omega);have hS1:=(BZ w _ zS 82).kept hK1 (by omega);have hz1:w.heap.size+1<w1.heap.size:=hS1.lt)|(go_at_call 72;refine(EX _ b s r0 (by exact hR1) hs).mono ?_;rintro e w2 ⟨he,hR2,hK2⟩;rw[<-HA.out]at he hR2;rw[DO.val_eq]at he;subst he;clear c1;have hA2:=hA1.kept hK2 (by omega);have hS2:=hS1.kept hK2 (by omega);have hz2:w1.heap.size<=w2.heap.size:=hK2.size;obtain⟨a0,a1,a2,a3,a4,a5⟩:=hA2.c6;have fA:=hA2.frozen;obtain⟨s0,s1,s2,s3,s4⟩:=hS2.c5;have fS:=hS2.frozen;have HK2:Hid (An b w w2):=((((An.refl b w).allocs _).allocs _).trans hK1).trans hK2;clear hK1 hK2 hA1 hS1 hA2 hS2;have hz3:w.heap.size<w2.heap.size:=(by omega);have hz4:w.heap.size+1<w2.heap.size:=(by omega);have hz5:w.heap.size<w2.heap.size+1:=(by omega);have hz6:w.heap.size+1<w2.heap.size+1:=(by omega)));go_region;go_wp2;exact bodyPost_ret (v:=.tuple #[.agg #[.string A.nm,.int .i64 A.cn,.string (A.t 0),.string (A.t 1),.string (A.t 2),.bool false],.agg #[.int .i64 0,.int .i64 A.np',.int .i64 (A.p 0),.int .i64 (A.p 1),.int .i64 (A.p 2)],.bool A.ok]) (by simp[results,results96,go_sem,a0,a1,a2,a3,a4,a5,s0,s1,s2,s3,s4,hz3,hz4,hz5]) rfl ⟨rfl,((((hR2.set6 _ (by omega) _ _ _ _ _ _).set5 _ (by omega) _ _ _ _ _).alloc _).alloc _).drew,((((HK2.out.set6 _ (by omega) _ _ _ _ _ _).set5 _ (by omega) _ _ _ _ _).allocs _).allocs _).drewn⟩
theorem I5(w:World)(b:Nat)(s:ByteArray)(l:B8)(hR:Rd w b s l)(hs:s.size<=281474976710656)(h1:Bc l 33=true):
 Calls prog 96 #[.pointer (some ⟨b,0,none⟩)] w fun e w'=>e=.returned (Em s l)/\Rd w' b s (A0 s l).rest/\An b w w':=by
 have hsm:s.size<=maxLen:=by unfold maxLen;omega
 have hlt:=hR.lt;have hll:=hR.len;obtain⟨r0,H0⟩:∃r0,Hid (r0=Av l 33):=⟨_,rfl⟩;obtain⟨A,HA⟩:∃A,Hid (A=Ar s r0):=⟨_,rfl⟩;have hp:1<=Ay s r0:=by have:=Me l 33 h1 (by omega);rw[<-H0.out]at this;unfold Ay;omega
 have hps:Ay s r0<=281474976710656:=by unfold Ay;omega
 have HE2:Hid ((A0 s l).rest=A.rest):=by show(A0 s l).rest=_;simp[A0,<-H0.out,<-HA.out]
 rw[Kc s l r0 A H0.out HA.out h1 hp,HE2.out];go_enter func96,ntmps96;go_wp2_with (first|(go_at_call 73;refine(Cm _ b s l 33 (by exact(hR.alloc _).alloc _) hsm (by omega)).mono ?_;rintro e w1 ⟨rfl,hR1,hK1⟩;rw[<-H0.out]at hR1;have c1:=hR1.c1;have hA1:=(Df w zL 130 zS 82).kept hK1 (by omega);have hS1:=(BZ w _ zS 82).kept hK1 (by omega);have hz1:w.heap.size+1<w1.heap.size:=hS1.lt)|(go_at_call 72;refine(EX _ b s r0 (by exact hR1) hs).mono ?_;rintro e w2 ⟨he,hR2,hK2⟩;rw[<-HA.out]at he hR2;rw[DO.val_eq]at he;subst he;clear c1;have hA2:=hA1.kept hK2 (by omega);have hS2:=hS1.kept hK2 (by omega);have hz2:w1.heap.size<=w2.heap.size:=hK2.size;obtain⟨a0,a1,a2,a3,a4,a5⟩:=hA2.c6;have fA:=hA2.frozen;obtain⟨s0,s1,s2,s3,s4⟩:=hS2.c5;have fS:=hS2.frozen;have HK2:Hid (An b w w2):=((((An.refl b w).allocs _).allocs _).trans hK1).trans hK2;clear hK1 hK2 hA1 hS1 hA2 hS2;have hz3:w.heap.size<w2.heap.size:=(by omega);have hz4:w.heap.size+1<w2.heap.size:=(by omega);have hz5:w.heap.size<w2.heap.size+1:=(by omega);have hz6:w.heap.size+1<w2.heap.size+1:=(by omega)));go_region;go_wp2;exact bodyPost_ret (v:=.tuple #[.agg #[.string A.nm,.int .i64 A.cn,.string (A.t 0),.string (A.t 1),.string (A.t 2),.bool true],.agg #[.int .i64 ((Ay s r0:Int)-1),.int .i64 A.np',.int .i64 (A.p 0),.int .i64 (A.p 1),.int .i64 (A.p 2)],.bool A.ok]) (by simp[results,results96,go_sem,a0,a1,a2,a3,a4,a5,s0,s1,s2,s3,s4,hz3,hz4,hz5]) rfl ⟨rfl,((((hR2.set6 _ (by omega) _ _ _ _ _ _).set5 _ (by omega) _ _ _ _ _).alloc _).alloc _).drew,((((HK2.out.set6 _ (by omega) _ _ _ _ _ _).set5 _ (by omega) _ _ _ _ _).allocs _).allocs _).drewn⟩
theorem Hs(w:World)(b:Nat)(s:ByteArray)(l:B8)(hR:Rd w b s l)(hs:s.size<=281474976710656):
 Calls prog 96 #[.pointer (some ⟨b,0,none⟩)] w fun e w'=>e=.returned (Em s l)/\Rd w' b s (A0 s l).rest/\An b w w':=by
 cases h1:Bc l 33
 ·exact Kb w b s l hR hs h1
 ·exact I5 w b s l hR hs h1
structure AG where
 name:B8
 ts:List B8
 neg:Bool
structure Bo where
 mark:Nat
 np:Nat
 ps:List Nat
def AG.cells(d:AG):List Value:=I6 d.name d.ts d.neg
def Bo.cells(d:Bo):List Value:=Bd d.mark d.np d.ps
def D4(s:ByteArray)(l:B8):AG:=⟨(A0 s l).name,(A0 s l).ts,En l⟩
def Dy(s:ByteArray)(l:B8):Bo:=⟨Fg s l,(A0 s l).np,(A0 s l).ps⟩
structure L8 where
 ok:Bool
 lits:List AG
 spots:List Bo
 rest:B8
def CG(s:ByteArray):Nat->List AG->List Bo->B8->L8
 |0,ls,ps,l=>⟨true,ls,ps,l⟩
 |f+1,ls,ps,l=>
  if(A0 s l).ok=false then⟨false,ls,ps,(A0 s l).rest⟩
  else if f=0 then⟨true,ls++[D4 s l],ps++[Dy s l],(A0 s l).rest⟩
  else if Bc (A0 s l).rest 44=false then⟨true,ls++[D4 s l],ps++[Dy s l],Av (A0 s l).rest 44⟩
  else CG s f (ls++[D4 s l]) (ps++[Dy s l]) (Av (A0 s l).rest 44)
def Bj(s:ByteArray)(ps:List Bo)(l:B8):L8:=if(hd l==45)=false then⟨false,[],ps,l⟩ else CG s 4 [] ps l.tail
theorem NY:(prog.info? 130).map (fun i=>(i.zero,i.size,i.bytes))=some (some (.agg #[.string ⟨#[]⟩,.int .i64 0,.string ⟨#[]⟩,.string ⟨#[]⟩,.string ⟨#[]⟩,.bool false]),6,80):=by kernel_rfl
theorem MP:(prog.info? 82).map (fun i=>(i.zero,i.size,i.bytes))=some (some (.agg #[.int .i64 0,.int .i64 0,.int .i64 0,.int .i64 0,.int .i64 0]),5,40):=by kernel_rfl
theorem AP(w:World)(cs:List Value)(t:TypeId):∀j u,cs[j]? =some u->(w.alloc (.cells cs.toArray t)).cell? ((⟨w.heap.size,0,none⟩:Addr).add j)=some u:=by intro j u h;rw[Addr.add_lit,Nat.zero_add];rw[(Ag.new w cs t).cell j];exact h
theorem Al{w:World}{base:Nat}{e:TypeId}{size:Nat}{v:Value}{n:Nat}{xs:List Value}(h:w.ownsRow base e size v n xs):∃ao cap,v=.slice ao n cap:=by
 rcases h.2 with⟨rfl,rfl⟩|⟨g,cap,cur,rfl,_⟩
 ·exact⟨none,0,rfl⟩
 ·exact⟨_,_,rfl⟩
theorem Rd.next{w:World}{b:Nat}{s:ByteArray}{l:B8}(h:Rd w b s l)(h0:l≠[]):Rd (w.setCell ⟨b,1,none⟩ (.int .i64 ((Ay s l:Int)+1))) b s l.tail:=by
 obtain⟨hr,hle,hd⟩:=h.at;have hlt:Ay s l<s.size:=by apply Classical.byContradiction;intro hn;rw[Fk s _ hn]at hd;exact h0 hd.symm
 refine⟨Ay s l+1,hlt,?_,hr.to (by omega)⟩;have e:=Cx s _ hlt;rw[hd]at e;exact(congrArg List.tail e).symm
def Lq(s:ByteArray)(l:B8):Int:=Fg s l
theorem Ht(s:ByteArray)(l:B8):Em s l=.tuple #[.agg #[.string (A0 s l).nm,.int .i64 (A0 s l).cn,.string ((A0 s l).t 0),.string ((A0 s l).t 1),.string ((A0 s l).t 2),.bool (En l)],.agg #[.int .i64 (Lq s l),.int .i64 (A0 s l).np',.int .i64 ((A0 s l).p 0),.int .i64 ((A0 s l).p 1),.int .i64 ((A0 s l).p 2)],.bool (A0 s l).ok]:=rfl
theorem Kd(s:ByteArray)(l:B8):(D4 s l).cells=[.string (A0 s l).nm,.int .i64 (A0 s l).cn,.string ((A0 s l).t 0),.string ((A0 s l).t 1),.string ((A0 s l).t 2),.bool (En l)]:=rfl
theorem IS(s:ByteArray)(l:B8):(Dy s l).cells=[.int .i64 (Lq s l),.int .i64 (A0 s l).np',.int .i64 ((A0 s l).p 0),.int .i64 ((A0 s l).p 1),.int .i64 ((A0 s l).p 2)]:=rfl
theorem Rd.grown{w w':World}{b:Nat}{s:ByteArray}{l:B8}{row:Option Nat}(h:Rd w b s l)(hg:w.grownBy w' row)(hne:row≠some b):Rd w' b s l:=by obtain⟨i,hi,hl,hr⟩:=h;exact⟨i,hi,hl,Ag.grown hr hg hne⟩
theorem Dl{w:World}{base:Nat}{e:TypeId}{size:Nat}{v:Value}{n:Nat}{xs:List Value}(h:w.ownsRow base e size v n xs){k:Nat}(hk:w.heap.size<=k):v.ownBlock≠some k:=by intro he;have:=(h.lt k he).2;omega
theorem B3{w:World}{base:Nat}{e:TypeId}{size:Nat}{v:Value}{n:Nat}{xs:List Value}(h:w.ownsRow base e size v n xs):∀k,v.ownBlock=some k->base<=k:=fun k hk=>(h.lt k hk).1
def N8(w:World)(b:Nat):Nat:=match w.cell? ⟨b,5,none⟩ with|some (.slice _ n _)=>n|_=>0
theorem KV{w:World}{cb:Nat}{x0 x1 x2 x3 x4 x6:Value}{ao:Option Addr}{n cap:Nat}{t:TypeId}(h:Ag w cb [x0,x1,x2,x3,x4,.slice ao n cap,x6] t):N8 w cb=n:=by unfold N8;rw[h.cell 5];rfl
theorem M5(w:World)(b:Nat)(s:ByteArray)(l:B8)(cb B:Nat)(n0 t0 t1 t2:ByteArray)(c:Int)(sv:Value)(ps0:List Bo)(hR:Rd w b s l)(hs:s.size<=281474976710656)
 (hC:Ag w cb [.string n0,.int .i64 c,.string t0,.string t1,.string t2,.slice none 0 0,sv] 124)
 (hS:w.ownsRow B 82 5 sv ps0.length (ps0.flatMap Bo.cells))(h1:ps0.length=1)(hb:b<B)(hB:B<=cb)(hBw:B<=w.heap.size):
 Calls prog 74 #[.pointer (some ⟨b,0,none⟩),.pointer (some ⟨cb,0,none⟩)] w fun e w'=>e=.returned (.bool (Bj s ps0 l).ok)/\
  ∃bv sv',Ag w' cb [.string n0,.int .i64 c,.string t0,.string t1,.string t2,bv,sv'] 124/\
   w'.ownsRow B 130 6 bv (Bj s ps0 l).lits.length ((Bj s ps0 l).lits.flatMap AG.cells)/\
   w'.ownsRow B 82 5 sv' (Bj s ps0 l).spots.length ((Bj s ps0 l).spots.flatMap Bo.cells)/\
   Rd w' b s (Bj s ps0 l).rest/\A5 B b w w':=by
 have hsm:s.size<=maxLen:=by unfold maxLen;omega
 cases h45:(hd l==45)
 ·have HE:Hid (Bj s ps0 l=⟨false,[],ps0,l⟩):=by show Bj s ps0 l=_;simp[Bj,h45]
  have hne:(hd l != 45)=true:=by simp[bne,h45]
  go_enter func74,ntmps74;go_wp2_with (go_at_call 91;refine(Ei _ b s l (by exact hR) hsm).mono ?_;rintro e w' ⟨rfl,n,rfl⟩)
  go_ret
  rw[HE.out];exact⟨rfl,.slice none 0 0,sv,hC,World.ownsRow_nil _ _ _ _,hS,hR,((An.refl b w).draws _).to hBw⟩
 ·have hne:(hd l != 45)=false:=by simp[bne,h45]
  have hl0:l≠[]:=by intro e;rw[e]at h45;simp[hd]at h45
  obtain⟨l',HL⟩:∃l',Hid (l'=l.tail):=⟨_,rfl⟩;have HE:Hid (Bj s ps0 l=CG s 4 [] ps0 l'):=by show Bj s ps0 l=_;simp[Bj,h45,HL.out]
  have hR1:=hR.next hl0;rw[<-HL.out]at hR1;have hcb:cb≠b:=by omega
  have c1:=hR.c1;have f1:=hR.f1;have hpl:Ay s l<=281474976710656:=by unfold Ay;omega
  go_enter func74,ntmps74;go_wp2_with (go_at_call 91;refine(Ei _ b s l (by exact hR) hsm).mono ?_;rintro e w' ⟨rfl,n,rfl⟩);clear c1 f1
  go_loopw [] (fun wr=>∃(ls:List AG) (ps:List Bo) (r:B8) (bv sv:Value),ls.length<4/\ps.length=ls.length+1/\Hid (CG s (4-ls.length) ls ps r=CG s 4 [] ps0 l')/\Rd wr b s r/\
   Ag wr cb [.string n0,.int .i64 c,.string t0,.string t1,.string t2,bv,sv] 124/\wr.ownsRow B 130 6 bv ls.length (ls.flatMap AG.cells)/\wr.ownsRow B 82 5 sv ps.length (ps.flatMap Bo.cells)/\A5 B b w wr) (fun wr=>4-N8 wr cb)
  case atStart=>
   refine⟨[],ps0,l',.slice none 0 0,sv,by decide,by simp[h1],rfl,hR1,?_,World.ownsRow_nil _ _ _ _,?_,?_⟩
   ·exact Ag.setOther (Ag.drewN hC _) ⟨b,1,none⟩ _ (by simpa using hcb)
   ·exact AM hS ⟨b,1,none⟩ _ (Ah hS hR.at.1 (by decide))
   ·exact(((An.refl b w).set 1 _).draws _).to hBw
  case round=>
   obtain⟨ls,ps,r,bv,sv1,hl4,hps,HX,hRr,hCr,hLr,hSr,hKr⟩:=hrel;have HPS:Hid (ps.length=ls.length+1):=hps;have hp4:ps.length<=4:=by omega
   clear hps;obtain⟨ao,cap,rfl⟩:=Al hLr;obtain⟨po,pcap,rfl⟩:=Al hSr;have HBL:Hid (N8 wr cb=ls.length):=KV hCr;obtain⟨i1,hi1,hy0,hy1,hy2⟩:=info_parts NY;obtain⟨i2,hi2,hz0,hz1,hz2⟩:=info_parts MP;cases hok:(A0 s r).ok
   ·have HF:Hid (Bj s ps0 l=⟨false,ls,ps,(A0 s r).rest⟩):=by show Bj s ps0 l=_;rw[HE.out,<-HX.out,show 4-ls.length=(3-ls.length)+1 by omega];simp[CG,hok]
    go_wp2_with (go_at_call 96;refine(Hs _ b s r (by exact hRr) hs).mono ?_;rintro e w1 ⟨he,hR1,hK1⟩;rw[Ht,hok]at he;subst he)
    go_ret
    rw[HF.out];have hKK1:=hKr.kept hK1 (by have:=hKr.size;omega);exact⟨rfl,_,_,((hCr.kept hK1 hcb).alloc _).alloc _,((BB hLr hK1 (Ah hLr hRr.at.1 (by decide))).alloc _).alloc _,((BB hSr hK1 (Ah hSr hRr.at.1 (by decide))).alloc _).alloc _,(hR1.alloc _).alloc _,(hKK1.alloc _ (by have:=hKK1.size;omega)).alloc _ (by have:=hKK1.size;simp;omega)⟩
   ·obtain⟨A,HA⟩:∃A,Hid (A=A0 s r):=⟨_,rfl⟩;go_wp2_with (go_at_call 96;refine(Hs _ b s r (by exact hRr) hs).mono ?_;rintro e w1 ⟨he,hR1,hK1⟩;rw[Ht,hok,<-HA.out]at he;subst he;rw[<-HA.out]at hR1;have hC1:=hCr.kept hK1 hcb;have hL1:=BB hLr hK1 (Ah hLr hRr.at.1 (by decide));have hS1:=BB hSr hK1 (Ah hSr hRr.at.1 (by decide));have hKK1:=hKr.kept hK1 (by have:=hKr.size;omega);have hcw:cb<w1.heap.size:=hC1.lt;have hbw:b<w1.heap.size:=hR1.lt;obtain⟨c0,c1,c2,c3,c4,c5,c6⟩:=hC1.c7;have fC:=hC1.frozen);obtain⟨cs,HC⟩:∃cs,Hid (cs=[Value.string A.nm,.int .i64 A.cn,.string (A.t 0),.string (A.t 1),.string (A.t 2),.bool (En r)]):=⟨_,rfl⟩
    have hone:∀u∈cs,u.oneCell'=true:=by
     rw[HC.out];intro u hu;simp at hu;rcases hu with rfl|rfl|rfl|rfl|rfl|rfl<;>rfl
    have hlen:cs.length=1*6:=by rw[HC.out];rfl
    have hown:∀o1 o2 o3,((((w1.alloc o1).alloc o2).alloc o3).drew).ownsRow B 130 6 (.slice ao ls.length cap) ls.length (ls.flatMap AG.cells):=fun o1 o2 o3=>((hL1.alloc o1).alloc o2).alloc o3
    have hnews:∀o1 o2,∀j u,cs[j]? =some u->((((w1.alloc o1).alloc o2).alloc (.cells #[Value.string A.nm,.int .i64 A.cn,.string (A.t 0),.string (A.t 1),.string (A.t 2),.bool (En r)] 130)).drew).cell? ((⟨w1.heap.size+1+1,0,none⟩:Addr).add j)=some u:=by
     intro o1 o2 j u h;rw[HC.out]at h;have h':=AP ((w1.alloc o1).alloc o2) _ 130 j u h;have e:((w1.alloc o1).alloc o2).heap.size=w1.heap.size+1+1:=by simp
     rw[e]at h';exact h'
    have hcw1:cb<w1.heap.size+1:=by omega
    have hcw2:cb<w1.heap.size+1+1:=by omega
    have hlm:ls.length+1<=maxLen:=by unfold maxLen;omega
    have hlb:(ls.length+1)*80<=140737488355328:=by omega
    have hBB:∀o1 o2 o3,B<=((((w1.alloc o1).alloc o2).alloc o3).drew).heap.size:=by intro o1 o2 o3;have:=hKK1.size;simp;omega
    have HLX:Hid (ls.flatMap AG.cells++cs=(ls++[D4 s r]).flatMap AG.cells):=by show ls.flatMap AG.cells++cs=(ls++[D4 s r]).flatMap AG.cells;rw[List.flatMap_append,HC.out];simp[Kd,<-HA.out]
    have hne1:=Ah hL1 hC1 (by decide);have hne2:=Ah hL1 hR1.at.1 (by decide);have hne3:=Dl hL1 (k:=w1.heap.size+1) (by omega);have hne4:=CX hS1 hL1 (by decide);have hbs:=B3 hL1;have hB1:B<=w1.heap.size:=by have:=hKK1.size;omega
    go_cut [] from 18 to 59 (fun wx=>∃g cap',Ag wx cb [.string n0,.int .i64 c,.string t0,.string t1,.string t2,.slice (some ⟨g,0,none⟩) (ls.length+1) cap',.slice po ps.length pcap] 124/\wx.ownsRow B 130 6 (.slice (some ⟨g,0,none⟩) (ls.length+1) cap') (ls.length+1) (ls.flatMap AG.cells++cs)/\
     wx.ownsRow B 82 5 (.slice po ps.length pcap) ps.length (ps.flatMap Bo.cells)/\Ag wx (w1.heap.size+1) [.int .i64 (Lq s r),.int .i64 A.np',.int .i64 (A.p 0),.int .i64 (A.p 1),.int .i64 (A.p 2)] 82/\Rd wx b s A.rest/\A5 B b w wx)
    case first=>
     go_region_law (refine C7 rfl (.tmp 31) (.tmp 33) 58 rfl B 130 i1 _ 6 80 underlying58 hi1 hy0 hy1 hy2 rfl (by decide) (.slice ao ls.length cap) ls.length (ls.flatMap AG.cells) (by simp[Act.eval]) (hown _ _ _) ⟨w1.heap.size+1+1,0,none⟩ 1 1 cs (by simp[Act.eval]) (by decide) hlen (hnews _ _) hone hlm hlb (hBB _ _ _) ?_;intro g cap' w2 hL2 hg2;have hC2:=(((hC1.alloc _).alloc _).alloc _).drew.grown hg2 hne1;obtain⟨d0,d1,d2,d3,d4,d5,d6⟩:=hC2.c7;have fC2:=hC2.frozen;have hR2:=(((hR1.alloc _).alloc _).alloc _).drew.grown hg2 hne2;have hP2:=((BZ w1 _ [.int .i64 (Lq s r),.int .i64 A.np',.int .i64 (A.p 0),.int .i64 (A.p 1),.int .i64 (A.p 2)] 82).alloc _).drew.grown hg2 hne3;have hS2:=(((hS1.alloc _).alloc _).alloc _).drew.kept hg2 hne4;have hKK2:=((((hKK1.alloc _ hB1).alloc _ (by simp;omega)).alloc _ (by simp;omega)).drew).grown hg2 (by simp;omega) hbs)
     all_goals go_wp2_with fail
     all_goals go_meet
     all_goals
      refine⟨g,cap',hC2.setCell 5 _,AM hL2 ⟨cb,5,none⟩ _ (Ah hL2 hC2 (by decide)),AM hS2 ⟨cb,5,none⟩ _ (Ah hS2 hC2 (by decide)),hP2.setOther ⟨cb,5,none⟩ _ (by simp only[ne_eq];omega),hR2.setOther ⟨cb,5,none⟩ _ (by simp only[ne_eq];omega),hKK2.set ⟨cb,5,none⟩ _ (.inl hB)⟩
    case rest=>
     clear c0 c1 c2 c3 c4 c5 c6 fC hown hnews hBB hC1 hL1 hS1 hKK1 hR1 hne1 hne2 hne3 hne4 hbs hone hlen hCr hLr hSr hKr hRr hK1;obtain⟨g,cap',hC2,hL2,hS2,hP2,hR2,hKK2⟩:=hcut;obtain⟨c0,c1,c2,c3,c4,c5,c6⟩:=hC2.c7;have fC:=hC2.frozen;obtain⟨p0,p1,p2,p3,p4⟩:=hP2.c5;have hcw:cb<wc.heap.size:=hC2.lt;have hpw:w1.heap.size+1<wc.heap.size:=hP2.lt;obtain⟨qs,HQ⟩:∃qs,Hid (qs=[Value.int .i64 (Lq s r),.int .i64 A.np',.int .i64 (A.p 0),.int .i64 (A.p 1),.int .i64 (A.p 2)]):=⟨_,rfl⟩
     have hone:∀u∈qs,u.oneCell'=true:=by
      rw[HQ.out];intro u hu;simp at hu;rcases hu with rfl|rfl|rfl|rfl|rfl<;>rfl
     have hlen:qs.length=1*5:=by rw[HQ.out];rfl
     have hown:∀o3,((wc.alloc o3).drew).ownsRow B 82 5 (.slice po ps.length pcap) ps.length (ps.flatMap Bo.cells):=fun o3=>hS2.alloc o3;have hnews:∀j u,qs[j]? =some u->((wc.alloc (.cells #[Value.int .i64 (Lq s r),.int .i64 A.np',.int .i64 (A.p 0),.int .i64 (A.p 1),.int .i64 (A.p 2)] 82)).drew).cell? ((⟨wc.heap.size,0,none⟩:Addr).add j)=some u:=by intro j u h;rw[HQ.out]at h;exact AP wc _ 82 j u h
     have hpm:ps.length+1<=maxLen:=by unfold maxLen;omega
     have hpb:(ps.length+1)*40<=140737488355328:=by omega
     have hB2:B<=wc.heap.size:=by have:=hKK2.size;omega
     have hBB:∀o3,B<=((wc.alloc o3).drew).heap.size:=by intro o3;simp;omega
     have HSX:Hid (ps.flatMap Bo.cells++qs=(ps++[Dy s r]).flatMap Bo.cells):=by show ps.flatMap Bo.cells++qs=(ps++[Dy s r]).flatMap Bo.cells;rw[List.flatMap_append,HQ.out];simp[IS,<-HA.out]
     have hne1:=Ah hS2 hC2 (by decide);have hne2:=Ah hS2 hR2.at.1 (by decide);have hne4:=CX hL2 hS2 (by decide);have hbs:=B3 hS2;go_wp2_with fail
     go_cut [] from 18 to 59 (fun wx=>∃g2 cap2,Ag wx cb [.string n0,.int .i64 c,.string t0,.string t1,.string t2,.slice (some ⟨g,0,none⟩) (ls.length+1) cap',.slice (some ⟨g2,0,none⟩) (ps.length+1) cap2] 124/\wx.ownsRow B 130 6 (.slice (some ⟨g,0,none⟩) (ls.length+1) cap') (ls.length+1) (ls.flatMap AG.cells++cs)/\
      wx.ownsRow B 82 5 (.slice (some ⟨g2,0,none⟩) (ps.length+1) cap2) (ps.length+1) (ps.flatMap Bo.cells++qs)/\Rd wx b s A.rest/\A5 B b w wx)
     case first=>
      go_region_law (refine C7 rfl (.tmp 42) (.tmp 44) 122 rfl B 82 i2 _ 5 40 underlying122 hi2 hz0 hz1 hz2 rfl (by decide) (.slice po ps.length pcap) ps.length (ps.flatMap Bo.cells) (by simp[Act.eval]) (hown _) ⟨wc.heap.size,0,none⟩ 1 1 qs (by simp[Act.eval]) (by decide) hlen hnews hone hpm hpb (hBB _) ?_;intro g2 cap2 w3 hS3 hg3;have hC3:=(hC2.alloc _).drew.grown hg3 hne1;obtain⟨d0,d1,d2,d3,d4,d5,d6⟩:=hC3.c7;have fC3:=hC3.frozen;have hR3:=(hR2.alloc _).drew.grown hg3 hne2;have hL3:=(hL2.alloc _).drew.kept hg3 hne4;have hKK3:=((hKK2.alloc _ hB2).drew).grown hg3 (by simp;omega) hbs)
      all_goals go_wp2_with fail
      all_goals go_meet
      all_goals
       exact⟨g2,cap2,hC3.setCell 6 _,AM hL3 ⟨cb,6,none⟩ _ (Ah hL3 hC3 (by decide)),AM hS3 ⟨cb,6,none⟩ _ (Ah hS3 hC3 (by decide)),hR3.setOther ⟨cb,6,none⟩ _ (by simp only[ne_eq];omega),hKK3.set ⟨cb,6,none⟩ _ (.inl hB)⟩
     case rest=>
      clear c0 c1 c2 c3 c4 c5 c6 fC p0 p1 p2 p3 p4 hown hnews hBB hC2 hL2 hS2 hP2 hR2 hKK2 hne1 hne2 hne4 hbs hone hlen;obtain⟨g2,cap2,hC2,hL2,hS2,hR2,hKK2⟩:=hcut;rw[HLX.out]at hL2;rw[HSX.out]at hS2;obtain⟨c0,c1,c2,c3,c4,c5,c6⟩:=hC2.c7;by_cases h3:ls.length=3
      ·have hq:(((ls.length:Int)+1)==4)=true:=by rw[beq_iff_eq];omega
       have HF:Hid (Bj s ps0 l=⟨true,ls++[D4 s r],ps++[Dy s r],(A0 s r).rest⟩):=by show Bj s ps0 l=_;rw[HE.out,<-HX.out,h3];simp[CG,hok]
       clear h3;go_wp2
       go_ret
       rw[HF.out];exact⟨rfl,_,_,hC2,by simpa using hL2,by simpa using hS2,by rw[<-HA.out];exact hR2,hKK2⟩
      ·have hq:(((ls.length:Int)+1)==4)=false:=by rw[beq_eq_false_iff_ne];omega
       have HG:Hid (4-ls.length=(3-ls.length)+1/\3-ls.length≠0):=⟨by omega,by omega⟩;have hl3:ls.length+1<4:=by omega
       clear h3;cases ht:Bc A.rest 44
       ·have HF:Hid (Bj s ps0 l=⟨true,ls++[D4 s r],ps++[Dy s r],Av A.rest 44⟩):=by show Bj s ps0 l=_;rw[HA.out]at ht;rw[HE.out,<-HX.out,HG.out.1];simp[CG,hok,HG.out.2,ht,HA.out]
        go_wp2_with (go_at_call 73;refine(Cm _ b s A.rest 44 (by exact hR2) hsm (by omega)).mono ?_;rintro e w3 ⟨rfl,hR3,hK3⟩)
        go_ret
        rw[HF.out];exact⟨rfl,_,_,hC2.kept hK3 hcb,by simpa using BB hL2 hK3 (Ah hL2 hR2.at.1 (by decide)),by simpa using BB hS2 hK3 (Ah hS2 hR2.at.1 (by decide)),hR3,hKK2.kept hK3 (by have:=hKK2.size;omega)⟩
       ·have HF:Hid (CG s (4-(ls++[D4 s r]).length) (ls++[D4 s r]) (ps++[Dy s r]) (Av A.rest 44)=CG s 4 [] ps0 l'):=by show CG s (4-(ls++[D4 s r]).length) (ls++[D4 s r]) (ps++[Dy s r]) (Av A.rest 44)=_;rw[HA.out]at ht;rw[<-HX.out,HG.out.1,List.length_append,List.length_singleton,show 4-(ls.length+1)=3-ls.length by omega];simp[CG,hok,HG.out.2,ht,HA.out]
        go_wp2_with (go_at_call 73;refine(Cm _ b s A.rest 44 (by exact hR2) hsm (by omega)).mono ?_;rintro e w3 ⟨rfl,hR3,hK3⟩);have hC3:=hC2.kept hK3 hcb;refine⟨⟨ls++[D4 s r],ps++[Dy s r],Av A.rest 44,_,_,by simpa using hl3,by simp[HPS.out],HF,hR3,hC3,by simpa using BB hL2 hK3 (Ah hL2 hR2.at.1 (by decide)),by simpa using BB hS2 hK3 (Ah hS2 hR2.at.1 (by decide)),hKK2.kept hK3 (by have:=hKK2.size;omega)⟩,?_⟩;rw[HBL.out,KV hC3];omega
structure Nv where
 ok:Bool
 name:B8
 ts:List B8
 lits:List AG
 spots:List Bo
 rest:B8
def AT(s:ByteArray)(l:B8):Bo:=⟨0,(Ar s l).np,(Ar s l).ps⟩
def AN(s:ByteArray)(l:B8):Nv:=
 if(Ar s l).ok=false then⟨false,[],[],[],[],(Ar s l).rest⟩
 else if Bc (Ar s l).rest 58=false then⟨Bc (Av (Ar s l).rest 58) 46,(Ar s l).name,(Ar s l).ts,[],[AT s l],Av (Av (Ar s l).rest 58) 46⟩
 else if(Bj s [AT s l] (Av (Ar s l).rest 58)).ok=false then⟨false,[],[],[],[],(Bj s [AT s l] (Av (Ar s l).rest 58)).rest⟩
 else⟨Bc (Bj s [AT s l] (Av (Ar s l).rest 58)).rest 46,(Ar s l).name,(Ar s l).ts,(Bj s [AT s l] (Av (Ar s l).rest 58)).lits,(Bj s [AT s l] (Av (Ar s l).rest 58)).spots,Av (Bj s [AT s l] (Av (Ar s l).rest 58)).rest 46⟩
def DZ(w w':World)(r:Nv)(v:Value):Prop:=
 ∃(n0 t0 t1 t2:ByteArray) (c:Int) (ao po:Option Addr) (n m cap pcap:Nat),v=.tuple #[.agg #[.string n0,.int .i64 c,.string t0,.string t1,.string t2,.slice ao n cap,.slice po m pcap],.bool r.ok]/\
  (r.ok=true->[Value.string n0,.int .i64 c,.string t0,.string t1,.string t2]=AW r.name r.ts/\n=r.lits.length/\m=r.spots.length/\
    w'.ownsRow w.heap.size 130 6 (.slice ao n cap) n (r.lits.flatMap AG.cells)/\w'.ownsRow w.heap.size 82 5 (.slice po m pcap) m (r.spots.flatMap Bo.cells))
theorem C3{w:World}{base base':Nat}{e:TypeId}{size:Nat}{v:Value}{n:Nat}{xs:List Value}(h:w.ownsRow base e size v n xs)(hb:base'<=base):w.ownsRow base' e size v n xs:=by
 refine⟨h.1,?_⟩;rcases h.2 with h2|⟨g,cap,cur,hv,hg,r⟩
 ·exact .inl h2
 ·exact .inr ⟨g,cap,cur,hv,by omega,r⟩
theorem Rd.set7{w:World}{b:Nat}{s:ByteArray}{l:B8}(h:Rd w b s l)(A:Nat)(hA:b≠A)(x0 x1 x2 x3 x4 x5 x6:Value):
 Rd (((((((w.setCell ⟨A,0,none⟩ x0).setCell ⟨A,1,none⟩ x1).setCell ⟨A,2,none⟩ x2).setCell ⟨A,3,none⟩ x3).setCell ⟨A,4,none⟩ x4).setCell ⟨A,5,none⟩ x5).setCell ⟨A,6,none⟩ x6) b s l:=
 (h.set6 A hA x0 x1 x2 x3 x4 x5).setOther ⟨A,6,none⟩ x6 hA
theorem An.set7{b:Nat}{u w:World}(h:An b u w)(A:Nat)(hA:u.heap.size<=A)(x0 x1 x2 x3 x4 x5 x6:Value):
 An b u (((((((w.setCell ⟨A,0,none⟩ x0).setCell ⟨A,1,none⟩ x1).setCell ⟨A,2,none⟩ x2).setCell ⟨A,3,none⟩ x3).setCell ⟨A,4,none⟩ x4).setCell ⟨A,5,none⟩ x5).setCell ⟨A,6,none⟩ x6):=
 (h.set6 A hA x0 x1 x2 x3 x4 x5).setNew (p:=⟨A,6,none⟩) hA x6
theorem Gv{w:World}{base:Nat}{e:TypeId}{size:Nat}{v:Value}{n:Nat}{xs:List Value}(h:w.ownsRow base e size v n xs)(A:Nat)(hne:v.ownBlock≠some A)(x0 x1 x2 x3 x4 x5 x6:Value):
 (((((((w.setCell ⟨A,0,none⟩ x0).setCell ⟨A,1,none⟩ x1).setCell ⟨A,2,none⟩ x2).setCell ⟨A,3,none⟩ x3).setCell ⟨A,4,none⟩ x4).setCell ⟨A,5,none⟩ x5).setCell ⟨A,6,none⟩ x6).ownsRow base e size v n xs:=
 AM (AM (AM (AM (AM (AM (AM h ⟨A,0,none⟩ x0 hne) ⟨A,1,none⟩ x1 hne) ⟨A,2,none⟩ x2 hne) ⟨A,3,none⟩ x3 hne) ⟨A,4,none⟩ x4 hne) ⟨A,5,none⟩ x5 hne) ⟨A,6,none⟩ x6 hne
theorem Ag.keptTo{w w':World}{k B c:Nat}{cs:List Value}{t:TypeId}(h:Ag w k cs t)(hk:A5 B c w w')(hB:k<B)(hn:k≠c):Ag w' k cs t:=by unfold Ag at*;rw[hk.block k hB hn,h]
theorem A5.kept_of{B b:Nat}{u v w:World}(h:An b u v)(k:A5 B b v w)(hB:u.heap.size<=B):An b u w:=
 ⟨k.os.trans h.os,k.tape.trans h.tape,k.output.trans h.output,Nat.le_trans h.size k.size,fun i hi hn=>(k.block i (by omega) hn).trans (h.block i hi hn)⟩
def zP:List Value:=[.string ⟨#[]⟩,.int .i64 0,.string ⟨#[]⟩,.string ⟨#[]⟩,.string ⟨#[]⟩,.slice none 0 0,.slice none 0 0]
theorem LI(w:World)(b:Nat)(s:ByteArray)(l:B8)(hR:Rd w b s l)(hs:s.size<=281474976710656)(hok:(Ar s l).ok=false):
 Calls prog 47 #[.pointer (some ⟨b,0,none⟩)] w fun e w'=>∃v,e=.returned v/\DZ w w' (AN s l) v/\Rd w' b s (AN s l).rest/\An b w w':=by
 have hlt:=hR.lt;have HE:Hid (AN s l=⟨false,[],[],[],[],(Ar s l).rest⟩):=by show AN s l=_;simp[AN,hok]
 obtain⟨A,HA⟩:∃A,Hid (A=Ar s l):=⟨_,rfl⟩;rw[<-HA.out]at hok;go_enter func47,ntmps47;go_wp2_with (go_at_call 72;refine(EX _ b s l (by exact hR.alloc _) hs).mono ?_;rintro e w1 ⟨he,hR1,hK1⟩;rw[<-HA.out]at he hR1;rw[DO.val_eq,hok]at he;subst he;have hP1:=(Ag.new w zP 124).kept hK1 (by omega);obtain⟨a0,a1,a2,a3,a4,a5,a6⟩:=hP1.c7;have fP:=hP1.frozen;have hz1:w.heap.size<w1.heap.size:=hP1.lt;have hz2:w.heap.size<w1.heap.size+1:=(by omega));rw[HE.out,<-HA.out]
 have hv:DZ w w1 ⟨false,[],[],[],[],A.rest⟩ (.tuple #[.agg #[.string ⟨#[]⟩,.int .i64 0,.string ⟨#[]⟩,.string ⟨#[]⟩,.string ⟨#[]⟩,.slice none 0 0,.slice none 0 0],.bool false]):=
  ⟨_,_,_,_,_,_,_,_,_,_,_,rfl,by simp⟩
 exact bodyPost_ret (v:=.tuple #[.agg #[.string ⟨#[]⟩,.int .i64 0,.string ⟨#[]⟩,.string ⟨#[]⟩,.string ⟨#[]⟩,.slice none 0 0,.slice none 0 0],.bool false]) (by simp[results,results47,go_sem,a0,a1,a2,a3,a4,a5,a6,hz1,hz2]) rfl ⟨_,rfl,⟨_,_,_,_,_,_,_,_,_,_,_,rfl,by simp⟩,((hR1.set7 _ (by omega) _ _ _ _ _ _ _).alloc _).alloc _,((((((An.refl b w).allocs _).trans hK1).set7 _ (by omega) _ _ _ _ _ _ _).allocs _).allocs _)⟩
theorem Gy(w:World)(o1 o2 o3:Obj)(cs:List Value)(t:TypeId):Ag ((((w.alloc o1).alloc o2).alloc o3).alloc (.cells cs.toArray t)) (w.heap.size+1+1+1) cs t:=by
 have h:=Ag.new (((w.alloc o1).alloc o2).alloc o3) cs t;have e:(((w.alloc o1).alloc o2).alloc o3).heap.size=w.heap.size+1+1+1:=by simp
 rwa [e]at h
theorem Fz(w:World)(o1 o2:Obj)(cs:List Value)(t:TypeId)(o4:Obj):Ag ((((w.alloc o1).alloc o2).alloc (.cells cs.toArray t)).alloc o4) (w.heap.size+1+1) cs t:=by
 have h:=Ag.new ((w.alloc o1).alloc o2) cs t;have e:((w.alloc o1).alloc o2).heap.size=w.heap.size+1+1:=by simp
 rw[e]at h;exact h.alloc o4
theorem F7{w:World}{g:Nat}{cs:List Value}{e:TypeId}{size base:Nat}(h:Ag w g cs e)(hl:cs.length=size)(hb:base<=g):w.ownsRow base e size (.slice (some ⟨g,0,none⟩) 1 1) 1 cs:=by refine⟨by omega,.inr ⟨g,1,cs.toArray,rfl,hb,h,Nat.le_refl _,by unfold maxLen;omega,by simp;omega,?_⟩⟩;simp only[Nat.one_mul];exact List.take_of_length_le (by omega)
theorem Jw(w:World)(b:Nat)(s:ByteArray)(l:B8)(hR:Rd w b s l)(hs:s.size<=281474976710656)(hok:(Ar s l).ok=true)(h58:Bc (Ar s l).rest 58=false):
 Calls prog 47 #[.pointer (some ⟨b,0,none⟩)] w fun e w'=>∃v,e=.returned v/\DZ w w' (AN s l) v/\Rd w' b s (AN s l).rest/\An b w w':=by
 have hsm:s.size<=maxLen:=by unfold maxLen;omega
 have hlt:=hR.lt;have HE:Hid (AN s l=⟨Bc (Av (Ar s l).rest 58) 46,(Ar s l).name,(Ar s l).ts,[],[AT s l],Av (Av (Ar s l).rest 58) 46⟩):=by show AN s l=_;simp[AN,hok,h58]
 obtain⟨A,HA⟩:∃A,Hid (A=Ar s l):=⟨_,rfl⟩;have HHS:Hid ((AT s l).cells=[.int .i64 0,.int .i64 A.np',.int .i64 (A.p 0),.int .i64 (A.p 1),.int .i64 (A.p 2)]):=by rw[HA.out];rfl
 rw[<-HA.out]at hok h58;obtain⟨q,HQ⟩:∃q,Hid (q=Av A.rest 58):=⟨_,rfl⟩;go_enter func47,ntmps47;go_wp2_with (first|(go_at_call 72;refine(EX _ b s l (by exact hR.alloc _) hs).mono ?_;rintro e w1 ⟨he,hR1,hK1⟩;rw[<-HA.out]at he hR1;rw[DO.val_eq,hok]at he;subst he;have hP1:=(Ag.new w zP 124).kept hK1 (by omega);have hz1:w.heap.size<w1.heap.size:=hP1.lt)|(go_at_call 73;refine(Cm _ b s A.rest 58 (by exact(((hR1.alloc _).alloc _).alloc _).alloc _) hsm (by omega)).mono ?_;rintro e w2 ⟨rfl,hR2,hK2⟩;rw[<-HQ.out]at hR2;have hP2:=((((hP1.alloc _).alloc _).alloc _).alloc _).kept hK2 (by omega);have hC2:=(Gy w1 _ _ _ [.string A.nm,.int .i64 A.cn,.string (A.t 0),.string (A.t 1),.string (A.t 2),.slice none 0 0,.slice (some ⟨w1.heap.size+1+1,0,none⟩) 1 1] 124).kept hK2 (by omega);have hW2:=(Fz w1 _ _ [.int .i64 0,.int .i64 A.np',.int .i64 (A.p 0),.int .i64 (A.p 1),.int .i64 (A.p 2)] 82 _).kept hK2 (by omega);have hz2:w1.heap.size+1+1+1<w2.heap.size:=hC2.lt;obtain⟨c0,c1,c2,c3,c4,c5,c6⟩:=hC2.c7;have HK2:Hid (An b w w2):=(((((((An.refl b w).allocs _).trans hK1).allocs _).allocs _).allocs _).allocs _).trans hK2;clear hK1 hK2 hP1))
 go_region_with (go_at_call 73;refine(Cm _ b s q 46 (by exact hR2.drew) hsm (by omega)).mono ?_;rintro e w3 ⟨rfl,hR3,hK3⟩;have hP3:=hP2.drew.kept hK3 (by omega);have hC3:=hC2.drew.kept hK3 (by omega);have hW3:=hW2.drew.kept hK3 (by omega);obtain⟨d0,d1,d2,d3,d4,d5,d6⟩:=hC3.c7;obtain⟨a0,a1,a2,a3,a4,a5,a6⟩:=hP3.c7;have fP:=hP3.frozen;have HK3:Hid (An b w w3):=HK2.out.drewn.trans hK3)
 all_goals go_wp2
 all_goals rw[HE.out,<-HA.out,<-HQ.out]
 all_goals exact bodyPost_ret (v:=.tuple #[.agg #[.string A.nm,.int .i64 A.cn,.string (A.t 0),.string (A.t 1),.string (A.t 2),.slice none 0 0,.slice (some ⟨w1.heap.size+1+1,0,none⟩) 1 1],.bool (Bc q 46)]) (by simp[results,results47,go_sem,a0,a1,a2,a3,a4,a5,a6]) rfl ⟨_,rfl,⟨A.nm,A.t 0,A.t 1,A.t 2,A.cn,none,some ⟨w1.heap.size+1+1,0,none⟩,0,1,0,1,rfl,fun _=>⟨rfl,rfl,rfl,World.ownsRow_nil _ _ _ _,by rw[List.flatMap_singleton,HHS.out];exact Gv (F7 hW3 rfl (by omega)) _ (by simp only[Value.ownBlock,ne_eq,Option.some.injEq];omega) _ _ _ _ _ _ _⟩⟩,hR3.set7 _ (by omega) _ _ _ _ _ _ _,HK3.out.set7 _ (by omega) _ _ _ _ _ _ _⟩
theorem Kz(w:World)(b:Nat)(s:ByteArray)(l:B8)(hR:Rd w b s l)(hs:s.size<=281474976710656)(hok:(Ar s l).ok=true)(h58:Bc (Ar s l).rest 58=true)
 (hbo:(Bj s [AT s l] (Av (Ar s l).rest 58)).ok=false):
 Calls prog 47 #[.pointer (some ⟨b,0,none⟩)] w fun e w'=>∃v,e=.returned v/\DZ w w' (AN s l) v/\Rd w' b s (AN s l).rest/\An b w w':=by
 have hsm:s.size<=maxLen:=by unfold maxLen;omega
 have hlt:=hR.lt;have HE:Hid (AN s l=⟨false,[],[],[],[],(Bj s [AT s l] (Av (Ar s l).rest 58)).rest⟩):=by show AN s l=_;simp[AN,hok,h58,hbo]
 obtain⟨A,HA⟩:∃A,Hid (A=Ar s l):=⟨_,rfl⟩;have HHS:Hid ((AT s l).cells=[.int .i64 0,.int .i64 A.np',.int .i64 (A.p 0),.int .i64 (A.p 1),.int .i64 (A.p 2)]):=by rw[HA.out];rfl
 rw[<-HA.out]at hok h58 hbo;obtain⟨q,HQ⟩:∃q,Hid (q=Av A.rest 58):=⟨_,rfl⟩;rw[<-HQ.out]at hbo;obtain⟨D,HD⟩:∃D,Hid (D=Bj s [AT s l] q):=⟨_,rfl⟩;rw[<-HD.out]at hbo;go_enter func47,ntmps47;go_wp2_with (first|(go_at_call 72;refine(EX _ b s l (by exact hR.alloc _) hs).mono ?_;rintro e w1 ⟨he,hR1,hK1⟩;rw[<-HA.out]at he hR1;rw[DO.val_eq,hok]at he;subst he;have hP1:=(Ag.new w zP 124).kept hK1 (by omega);have hz1:w.heap.size<w1.heap.size:=hP1.lt)|(go_at_call 73;refine(Cm _ b s A.rest 58 (by exact(((hR1.alloc _).alloc _).alloc _).alloc _) hsm (by omega)).mono ?_;rintro e w2 ⟨rfl,hR2,hK2⟩;rw[<-HQ.out]at hR2;have hP2:=((((hP1.alloc _).alloc _).alloc _).alloc _).kept hK2 (by omega);have hC2:=(Gy w1 _ _ _ [.string A.nm,.int .i64 A.cn,.string (A.t 0),.string (A.t 1),.string (A.t 2),.slice none 0 0,.slice (some ⟨w1.heap.size+1+1,0,none⟩) 1 1] 124).kept hK2 (by omega);have hW2:=(Fz w1 _ _ [.int .i64 0,.int .i64 A.np',.int .i64 (A.p 0),.int .i64 (A.p 1),.int .i64 (A.p 2)] 82 _).kept hK2 (by omega);have hz2:w1.heap.size+1+1+1<w2.heap.size:=hC2.lt;have HK2:Hid (An b w w2):=(((((((An.refl b w).allocs _).trans hK1).allocs _).allocs _).allocs _).allocs _).trans hK2;clear hK1 hK2 hP1)|(go_at_call 74;refine(M5 _ b s q (w1.heap.size+1+1+1) (w1.heap.size+1+1) _ _ _ _ _ (.slice (some ⟨w1.heap.size+1+1,0,none⟩) 1 1) [AT s l] (by exact hR2) hs hC2 (by rw[List.flatMap_singleton,HHS.out];exact F7 hW2 rfl (Nat.le_refl _)) rfl (by omega) (by omega) (by omega)).mono ?_;rintro e w3 ⟨he,bv,sv,hC3,hL3,hS3,hR3,hKT3⟩;rw[<-HD.out]at he hR3 hL3 hS3;rw[hbo]at he;subst he;have hP3:=hP2.keptTo hKT3 (by omega) (by omega);obtain⟨a0,a1,a2,a3,a4,a5,a6⟩:=hP3.c7;have fP:=hP3.frozen;have HK3:Hid (An b w w3):=A5.kept_of HK2.out hKT3 (by omega)));rw[HE.out,<-HA.out,<-HQ.out,<-HD.out];exact bodyPost_ret (v:=.tuple #[.agg #[.string ⟨#[]⟩,.int .i64 0,.string ⟨#[]⟩,.string ⟨#[]⟩,.string ⟨#[]⟩,.slice none 0 0,.slice none 0 0],.bool false]) (by simp[results,results47,go_sem,a0,a1,a2,a3,a4,a5,a6]) rfl ⟨_,rfl,⟨_,_,_,_,_,_,_,_,_,_,_,rfl,by simp⟩,hR3.set7 _ (by omega) _ _ _ _ _ _ _,HK3.out.set7 _ (by omega) _ _ _ _ _ _ _⟩
theorem Ju(w:World)(b:Nat)(s:ByteArray)(l:B8)(hR:Rd w b s l)(hs:s.size<=281474976710656)(hok:(Ar s l).ok=true)(h58:Bc (Ar s l).rest 58=true)
 (hbo:(Bj s [AT s l] (Av (Ar s l).rest 58)).ok=true):
 Calls prog 47 #[.pointer (some ⟨b,0,none⟩)] w fun e w'=>∃v,e=.returned v/\DZ w w' (AN s l) v/\Rd w' b s (AN s l).rest/\An b w w':=by
 have hsm:s.size<=maxLen:=by unfold maxLen;omega
 have hlt:=hR.lt;have HE:Hid (AN s l=⟨Bc (Bj s [AT s l] (Av (Ar s l).rest 58)).rest 46,(Ar s l).name,(Ar s l).ts,(Bj s [AT s l] (Av (Ar s l).rest 58)).lits,(Bj s [AT s l] (Av (Ar s l).rest 58)).spots,Av (Bj s [AT s l] (Av (Ar s l).rest 58)).rest 46⟩):=by show AN s l=_;simp[AN,hok,h58,hbo]
 obtain⟨A,HA⟩:∃A,Hid (A=Ar s l):=⟨_,rfl⟩;have HHS:Hid ((AT s l).cells=[.int .i64 0,.int .i64 A.np',.int .i64 (A.p 0),.int .i64 (A.p 1),.int .i64 (A.p 2)]):=by rw[HA.out];rfl
 rw[<-HA.out]at hok h58 hbo;obtain⟨q,HQ⟩:∃q,Hid (q=Av A.rest 58):=⟨_,rfl⟩;rw[<-HQ.out]at hbo;obtain⟨D,HD⟩:∃D,Hid (D=Bj s [AT s l] q):=⟨_,rfl⟩;rw[<-HD.out]at hbo;go_enter func47,ntmps47;go_wp2_with (first|(go_at_call 72;refine(EX _ b s l (by exact hR.alloc _) hs).mono ?_;rintro e w1 ⟨he,hR1,hK1⟩;rw[<-HA.out]at he hR1;rw[DO.val_eq,hok]at he;subst he;have hP1:=(Ag.new w zP 124).kept hK1 (by omega);have hz1:w.heap.size<w1.heap.size:=hP1.lt)|(go_at_call 73;refine(Cm _ b s A.rest 58 (by exact(((hR1.alloc _).alloc _).alloc _).alloc _) hsm (by omega)).mono ?_;rintro e w2 ⟨rfl,hR2,hK2⟩;rw[<-HQ.out]at hR2;have hP2:=((((hP1.alloc _).alloc _).alloc _).alloc _).kept hK2 (by omega);have hC2:=(Gy w1 _ _ _ [.string A.nm,.int .i64 A.cn,.string (A.t 0),.string (A.t 1),.string (A.t 2),.slice none 0 0,.slice (some ⟨w1.heap.size+1+1,0,none⟩) 1 1] 124).kept hK2 (by omega);have hW2:=(Fz w1 _ _ [.int .i64 0,.int .i64 A.np',.int .i64 (A.p 0),.int .i64 (A.p 1),.int .i64 (A.p 2)] 82 _).kept hK2 (by omega);have hz2:w1.heap.size+1+1+1<w2.heap.size:=hC2.lt;have HK2:Hid (An b w w2):=(((((((An.refl b w).allocs _).trans hK1).allocs _).allocs _).allocs _).allocs _).trans hK2;clear hK1 hK2 hP1)|(go_at_call 74;refine(M5 _ b s q (w1.heap.size+1+1+1) (w1.heap.size+1+1) _ _ _ _ _ (.slice (some ⟨w1.heap.size+1+1,0,none⟩) 1 1) [AT s l] (by exact hR2) hs hC2 (by rw[List.flatMap_singleton,HHS.out];exact F7 hW2 rfl (Nat.le_refl _)) rfl (by omega) (by omega) (by omega)).mono ?_;rintro e w3 ⟨he,bv,sv,hC3,hL3,hS3,hR3,hKT3⟩;rw[<-HD.out]at he hR3 hL3 hS3;rw[hbo]at he;subst he;have hP3:=hP2.keptTo hKT3 (by omega) (by omega);have HK3:Hid (An b w w3):=A5.kept_of HK2.out hKT3 (by omega);have HLC:Hid (∃ao cap,bv=.slice ao D.lits.length cap):=Al hL3;have HSC:Hid (∃po pcap,sv=.slice po D.spots.length pcap):=Al hS3;clear hC2 hP2 hW2 hR2 hKT3 hR1));obtain⟨ao,cap,rfl⟩:=HLC.out;obtain⟨po,pcap,rfl⟩:=HSC.out;obtain⟨c0,c1,c2,c3,c4,c5,c6⟩:=hC3.c7
 go_region_with (go_at_call 73;refine(Cm _ b s D.rest 46 (by exact hR3.drew) hsm (by omega)).mono ?_;rintro e w4 ⟨rfl,hR4,hK4⟩;have hP4:=hP3.drew.kept hK4 (by omega);have hC4:=hC3.drew.kept hK4 (by omega);have hL4:=BB hL3.drew hK4 (Ah hL3 hR3.at.1 (by decide));have hS4:=BB hS3.drew hK4 (Ah hS3 hR3.at.1 (by decide));obtain⟨d0,d1,d2,d3,d4,d5,d6⟩:=hC4.c7;obtain⟨a0,a1,a2,a3,a4,a5,a6⟩:=hP4.c7;have fP:=hP4.frozen;have HK4:Hid (An b w w4):=HK3.out.drewn.trans hK4)
 all_goals go_wp2
 all_goals rw[HE.out,<-HA.out,<-HQ.out,<-HD.out]
 all_goals exact bodyPost_ret (v:=.tuple #[.agg #[.string A.nm,.int .i64 A.cn,.string (A.t 0),.string (A.t 1),.string (A.t 2),.slice ao D.lits.length cap,.slice po D.spots.length pcap],.bool (Bc D.rest 46)]) (by simp[results,results47,go_sem,a0,a1,a2,a3,a4,a5,a6]) rfl ⟨_,rfl,⟨A.nm,A.t 0,A.t 1,A.t 2,A.cn,ao,po,D.lits.length,D.spots.length,cap,pcap,rfl,fun _=>⟨rfl,rfl,rfl,Gv (C3 hL4 (by omega)) _ (Ah hL4 hP4 (by decide)) _ _ _ _ _ _ _,Gv (C3 hS4 (by omega)) _ (Ah hS4 hP4 (by decide)) _ _ _ _ _ _ _⟩⟩,hR4.set7 _ (by omega) _ _ _ _ _ _ _,HK4.out.set7 _ (by omega) _ _ _ _ _ _ _⟩
theorem Jv(w:World)(b:Nat)(s:ByteArray)(l:B8)(hR:Rd w b s l)(hs:s.size<=281474976710656):
 Calls prog 47 #[.pointer (some ⟨b,0,none⟩)] w fun e w'=>∃v,e=.returned v/\DZ w w' (AN s l) v/\Rd w' b s (AN s l).rest/\An b w w':=by
 cases h1:(Ar s l).ok
 ·exact LI w b s l hR hs h1
 ·cases h2:Bc (Ar s l).rest 58
  ·exact Jw w b s l hR hs h1 h2
  ·cases h3:(Bj s [AT s l] (Av (Ar s l).rest 58)).ok
   ·exact Kz w b s l hR hs h1 h2 h3
   ·exact Ju w b s l hR hs h1 h2 h3
structure Ap where
 name:B8
 ts:List B8
 lits:List AG
 spots:List Bo
structure PM where
 ok:Bool
 cls:List Ap
 rest:B8
def Nv.d(r:Nv):Ap:=⟨r.name,r.ts,r.lits,r.spots⟩
def A6(s:ByteArray):Nat->List Ap->B8->PM
 |0,ds,l=>if(Ao l).isEmpty=true then⟨true,ds,Ao l⟩ else⟨false,ds,Ao l⟩
 |f+1,ds,l=>
  if(Ao l).isEmpty=true then⟨true,ds,Ao l⟩
  else if(AN s (Ao l)).ok=false then⟨false,ds,(AN s (Ao l)).rest⟩
  else A6 s f (ds++[(AN s (Ao l)).d]) (AN s (Ao l)).rest
def Aw(s:ByteArray):PM:=A6 s 40 [] s.data.toList
def BD(w:World)(base:Nat)(d:Ap)(cs:List Value):Prop:=
 ∃bv sv,cs=AW d.name d.ts++[bv,sv]/\w.ownsRow base 130 6 bv d.lits.length (d.lits.flatMap AG.cells)/\w.ownsRow base 82 5 sv d.spots.length (d.spots.flatMap Bo.cells)
def Bu(w:World)(base:Nat)(v:Value)(ds:List Ap):Prop:=
 ∃rows:List (List Value),w.ownsRow base 124 7 v ds.length rows.flatten/\rows.length=ds.length/\∀(i:Nat) (d:Ap) (cs:List Value),ds[i]? =some d->rows[i]? =some cs->BD w base d cs
theorem BD.kept{w w':World}{base b:Nat}{d:Ap}{cs:List Value}(h:BD w base d cs)(hk:An b w w'){bs:List Value}{t:TypeId}(hb:Ag w b bs t)(h1:t≠130)(h2:t≠82):BD w' base d cs:=by obtain⟨bv,sv,hc,hl,hs⟩:=h;exact⟨bv,sv,hc,BB hl hk (Ah hl hb h1),BB hs hk (Ah hs hb h2)⟩
theorem Bu.kept{w w':World}{base b:Nat}{v:Value}{ds:List Ap}(h:Bu w base v ds)(hk:An b w w'){bs:List Value}{t:TypeId}(hb:Ag w b bs t)(h0:t≠124)(h1:t≠130)(h2:t≠82):Bu w' base v ds:=by obtain⟨rows,ho,hl,hr⟩:=h;exact⟨rows,BB ho hk (Ah ho hb h0),hl,fun i d cs hd hc=>(hr i d cs hd hc).kept hk hb h1 h2⟩
theorem BD.alloc{w:World}{base:Nat}{d:Ap}{cs:List Value}(h:BD w base d cs)(o:Obj):BD (w.alloc o) base d cs:=by obtain⟨bv,sv,hc,hl,hs⟩:=h;exact⟨bv,sv,hc,hl.alloc o,hs.alloc o⟩
theorem Bu.alloc{w:World}{base:Nat}{v:Value}{ds:List Ap}(h:Bu w base v ds)(o:Obj):Bu (w.alloc o) base v ds:=by obtain⟨rows,ho,hl,hr⟩:=h;exact⟨rows,ho.alloc o,hl,fun i d cs hd hc=>(hr i d cs hd hc).alloc o⟩
theorem Bu.nil(w:World)(base:Nat):Bu w base (.slice none 0 0) []:=⟨[],World.ownsRow_nil _ _ _ _,rfl,by simp⟩
theorem Bu.form{w:World}{base:Nat}{v:Value}{ds:List Ap}(h:Bu w base v ds):∃ao cap,v=.slice ao ds.length cap:=by obtain⟨rows,ho,hl,hr⟩:=h;exact Al ho
theorem Ki:(prog.info? 124).map (fun i=>(i.zero,i.size,i.bytes))=some (some (.agg #[.string ⟨#[]⟩,.int .i64 0,.string ⟨#[]⟩,.string ⟨#[]⟩,.string ⟨#[]⟩,.slice none 0 0,.slice none 0 0]),7,120):=by kernel_rfl
theorem AQ{P:Program}(w:World){ops:Array Oper}{rest:List Oper}{o:Oper}{a:Act}{Q:Exit->Act->World->Prop}(hgd:o.guard=none)(s x:Operand)(t:TypeId)
 (ho:o.op=.call { callee:=.builtin .append,args:=#[s,x],argTypes:=#[t,t] })
 (base:Nat)(e:TypeId)(i:TypeInfo)(z:Value)(size bytes:Nat)(ht:P.underlying t=some (.slice e))(hi:P.info? e=some i)(hz:i.zero=some z)
 (hsize:i.size=size)(hby:i.bytes=bytes)(hzs:z.cells.size=size)(hsz:0<size)
 (v:Value)(n:Nat)(xs:List Value)(hs:a.eval s=v)(hown:w.ownsRow base e size v n xs)
 (ad:Addr)(c:Nat)(news:List Value)(hx:a.eval x=.slice (some ad) 1 c)(hl:news.length=size)(hnews:∀j u,news[j]? =some u->w.cell? (ad.add j)=some u)(h1:∀u∈news,u.oneCell'=true)
 (h63:n+1<=maxLen)(hbytes:(n+1)*bytes<=140737488355328)(hbase:base<=w.heap.size)
 (h:∀g cap w',w'.ownsRow base e size (.slice (some ⟨g,0,none⟩) (n+1) cap) (n+1) (xs++news)->w.grownBy w' v.ownBlock->wpList P ops Q rest (a.put o.dst (.slice (some ⟨g,0,none⟩) (n+1) cap)) w'):wpList P ops Q (o::rest) a w:=by
 refine wpList_append_own w hgd s x t ho base e i z size bytes ht hi hz hsize hby hzs hsz v n xs hs hown ad 1 c news hx (by omega) hnews h1 h63 hbytes hbase ?_;intro v' w' h2 h3 _;rcases h2.2 with⟨hv,hn⟩|⟨g,cap,cur,hv,_⟩
 ·omega
 ·subst hv;exact h g cap w' h2 h3
def B2(w w1 w2:World):Prop:=w.heap.size<=w1.heap.size/\w.heap.size<=w2.heap.size
theorem Bu.more{w w':World}{base:Nat}{v v':Value}{ds:List Ap}{d:Ap}{cs:List Value}{rows:List (List Value)}(hr:∀(i:Nat) (d:Ap) (cs:List Value),ds[i]? =some d->rows[i]? =some cs->BD w base d cs)(hl:rows.length=ds.length)
 (ho:w.ownsRow base 124 7 v ds.length rows.flatten)(hd:BD w base d cs)
 (ho':w'.ownsRow base 124 7 v' (ds.length+1) (rows.flatten++cs))(hg:w.grownBy w' v.ownBlock):Bu w' base v' (ds++[d]):=by
 have step:∀d cs,BD w base d cs->BD w' base d cs:=by rintro d cs ⟨bv,sv,hc,hlb,hsb⟩;exact⟨bv,sv,hc,hlb.kept hg (CX hlb ho (by decide)),hsb.kept hg (CX hsb ho (by decide))⟩
 refine⟨rows++[cs],by simpa using ho',by simp[hl],?_⟩;intro i d' cs' h1 h2;by_cases hi:i<ds.length
 ·rw[List.getElem?_append_left hi]at h1;rw[List.getElem?_append_left (by omega)]at h2;exact step _ _ (hr i d' cs' h1 h2)
 ·rw[List.getElem?_append_right (by omega)]at h1;rw[List.getElem?_append_right (by omega),hl]at h2
  cases hk:i-ds.length with
  |zero=>rw[hk]at h1 h2;simp at h1 h2;subst h1;subst h2;exact step _ _ hd
  |succ k=>rw[hk]at h1;simp at h1
theorem EU(w:World)(o:Obj)(cs:List Value)(t:TypeId):∀j u,cs[j]? =some u->((w.alloc o).alloc (.cells cs.toArray t)).cell? ((⟨w.heap.size+1,0,none⟩:Addr).add j)=some u:=by
 intro j u h;have h':=AP (w.alloc o) cs t j u h;have e:(w.alloc o).heap.size=w.heap.size+1:=by simp
 rwa [e]at h'
def Pe:Value->Nat|.slice _ n _=>n|_=>0
def Gq(r:PM)(s:ByteArray)(v:Value):Value:=if r.ok=true then .tuple #[v,.int .i64 0,.bool true] else .tuple #[.slice none 0 0,.int .i64 (Ay s r.rest),.bool false]
theorem DJ(w:World)(s:ByteArray)(hs:s.size<=281474976710656):
 Calls prog 30 #[.string s] w fun e w'=>∃v,e=.returned (Gq (Aw s) s v)/\((Aw s).ok=true->Bu w' w.heap.size v (Aw s).cls)/\Below w.heap.size w w':=by
 have hsm:s.size<=maxLen:=by unfold maxLen;omega
 have hR0:Rd (w.alloc (.cells #[.string s,.int .i64 0] 121)) w.heap.size s s.data.toList:=⟨0,by omega,by simp,Ag.new w [.string s,.int .i64 0] 121⟩;obtain⟨i1,hi1,hy0,hy1,hy2⟩:=info_parts Ki;go_enter func30,ntmps30;go_wp2
 go_loopw [6] (fun v wr=>∃(ds:List Ap) (r:B8),ds.length<=40/\Hid (A6 s (40-ds.length) ds r=Aw s)/\Rd wr w.heap.size s r/\Bu wr w.heap.size v ds/\Below w.heap.size w wr) (fun v _=>40-Pe v)
 case atStart=>exact⟨[],s.data.toList,by simp,rfl,hR0,Bu.nil _ _,(Below.refl _ _).alloc (Nat.le_refl _) _⟩
 case round=>
  obtain⟨ds,r,hd4,HX,hRr,hPr,hB⟩:=hrel;obtain⟨ao,cap,rfl⟩:=hPr.form;have hbw:w.heap.size<wr.heap.size:=hRr.lt;cases hem:(Ao r).isEmpty
  ·by_cases h40:ds.length=40
   ·have hq:((ds.length:Int)==40)=true:=by rw[beq_iff_eq];omega
    have HE:Hid (Aw s=⟨false,ds,Ao r⟩):=by show Aw s=_;rw[<-HX.out,h40];simp[A6,hem]
    clear h40;go_wp2_with (go_at_call 46;refine(Fm _ w.heap.size s r (by exact hRr) hsm).mono ?_;rintro e w1 ⟨rfl,hR1,hK1⟩;have c1:=hR1.c1)
    go_quiet (fail)
    go_wp2
    go_ret3
    rw[HE.out];exact⟨.slice none 0 0,by simp[Gq],by simp,hB.trans (below_drewN (hK1.below (Nat.le_refl _) (by omega)) _)⟩
   ·have hq:((ds.length:Int)==40)=false:=by rw[beq_eq_false_iff_ne];omega
    have hd39:ds.length+1<=40:=by omega
    have HN:Hid (40-ds.length=(39-ds.length)+1):=by show 40-ds.length=_;omega
    clear h40;obtain⟨m,HM⟩:∃m,Hid (m=Ao r):=⟨_,rfl⟩;obtain⟨C,HC⟩:∃C,Hid (C=AN s m):=⟨_,rfl⟩;cases hok:C.ok
    ·have HE:Hid (Aw s=⟨false,ds,C.rest⟩):=by show Aw s=_;rw[HC.out,HM.out]at hok;rw[<-HX.out,HN.out];simp[A6,hem,hok,HC.out,HM.out]
     go_wp2_with (first|(go_at_call 46;refine(Fm _ w.heap.size s r (by exact hRr) hsm).mono ?_;rintro e w1 ⟨rfl,hR1,hK1⟩;rw[<-HM.out]at hR1)|(go_at_call 47;refine(Jv _ w.heap.size s m (by exact hR1) hs).mono ?_;rintro e w2 ⟨v,rfl,hv,hR2,hK2⟩;rw[<-HC.out]at hv hR2;obtain⟨n0,t0,t1,t2,c,ao2,po2,n2,m2,cap2,pcap2,hve,-⟩:=hv;rw[hok]at hve;subst hve;have c1:=hR2.c1;have hz2:w.heap.size<w2.heap.size:=hR2.lt))
     go_quiet (fail)
     go_wp2
     go_ret3
     rw[HE.out];exact⟨.slice none 0 0,by simp[Gq],by simp,hB.trans (below_drewN (((hK1.trans hK2).allocs _).below (Nat.le_refl _) (by omega)) _)⟩
    ·have HE:Hid (A6 s (40-(ds++[C.d]).length) (ds++[C.d]) C.rest=Aw s):=by show A6 s (40-(ds++[C.d]).length) (ds++[C.d]) C.rest=Aw s;rw[HC.out,HM.out]at hok;rw[<-HX.out,HN.out,List.length_append,List.length_singleton,show 40-(ds.length+1)=39-ds.length by omega];simp[A6,hem,hok,HC.out,HM.out]
     go_wp2_with (first|(go_at_call 46;refine(Fm _ w.heap.size s r (by exact hRr) hsm).mono ?_;rintro e w1 ⟨rfl,hR1,hK1⟩;rw[<-HM.out]at hR1)|(go_at_call 47;refine(Jv _ w.heap.size s m (by exact hR1) hs).mono ?_;rintro e w2 ⟨v,rfl,hv,hR2,hK2⟩;rw[<-HC.out]at hv hR2;obtain⟨n0,t0,t1,t2,c,ao2,po2,n2,m2,cap2,pcap2,hve,hvc⟩:=hv;have HVC:=AJ (hvc hok);clear hvc;rw[hok]at hve;subst hve;have hz2:w.heap.size<w2.heap.size:=hR2.lt;have HP2:=AJ ((hPr.kept hK1 hRr.at.1 (by decide) (by decide) (by decide)).kept hK2 hR1.at.1 (by decide) (by decide) (by decide));obtain⟨rows,ho,hl,hr⟩:=HP2.out;have HL:=AJ hl;clear hl;have hb2:B2 w w1 w2:=⟨by have:=hK1.size;omega,by omega⟩)|(at_builtin;refine AQ _ rfl _ _ 69 rfl w.heap.size 124 i1 _ 7 120 underlying69 hi1 hy0 hy1 hy2 rfl (by decide) _ ds.length rows.flatten rfl ((ho.alloc _).alloc _) ⟨w2.heap.size+1,0,none⟩ 1 [Value.string n0,.int .i64 c,.string t0,.string t1,.string t2,.slice ao2 n2 cap2,.slice po2 m2 pcap2] rfl rfl (EU _ _ _ _) (by intro u hu;simp at hu;rcases hu with rfl|rfl|rfl|rfl|rfl|rfl|rfl<;>rfl) (by unfold maxLen;omega) (by omega) (by simp;omega) ?_;intro g cap3 w3 ho3 hg3));obtain⟨hv1,hv2,hv3,hv4,hv5⟩:=HVC.out
     have hpl:BD w2 w.heap.size C.d [Value.string n0,.int .i64 c,.string t0,.string t1,.string t2,.slice ao2 n2 cap2,.slice po2 m2 pcap2]:=by
      refine⟨.slice ao2 n2 cap2,.slice po2 m2 pcap2,?_,?_,?_⟩
      ·show [Value.string n0,.int .i64 c,.string t0,.string t1,.string t2]++[Value.slice ao2 n2 cap2,.slice po2 m2 pcap2]=_;rw[hv1];rfl
      ·rw[hv2]at hv4⊢;exact C3 hv4 hb2.1
      ·rw[hv3]at hv5⊢;exact C3 hv5 hb2.1
     have hmore:=Bu.more (fun i d cs h1 h2=>((hr i d cs h1 h2).alloc _).alloc _) HL.out ((ho.alloc _).alloc _) ((hpl.alloc _).alloc _) ho3 hg3;have hR3:=((hR2.alloc _).alloc _).grown hg3 (Ah ho hR2.at.1 (by decide));have hB3:=((hB.trans ((hK1.trans hK2).below (Nat.le_refl _) (by omega))).alloc (by omega) _|>.alloc (by simp;omega) _).grown hg3 (by simp;omega) (B3 ho);exact⟨⟨ds++[C.d],C.rest,by simpa using hd39,HE,hR3,hmore,hB3⟩,by simp[Pe];omega⟩
  ·have HE:Hid (Aw s=⟨true,ds,Ao r⟩):=by show Aw s=_;rw[<-HX.out];cases 40-ds.length<;>simp[A6,hem]
   go_wp2_with (go_at_call 46;refine(Fm _ w.heap.size s r (by exact hRr) hsm).mono ?_;rintro e w1 ⟨rfl,hR1,hK1⟩)
   go_ret3
   rw[HE.out];exact⟨_,by simp[Gq],fun _=>hPr.kept hK1 hRr.at.1 (by decide) (by decide) (by decide),hB.trans (hK1.below (Nat.le_refl _) (by omega))⟩
end
section
attribute [local go_sem] Ai Ae
open Go.RowKit Go.WideMaps Go.Maps
theorem NW:Keyed prog 9:=string_keyed underlying9
theorem EL(w:World):(zeroValue 3).run prog w=.ok (.int .i64 0) w:=by kernel_rfl
def BM(xs:List B8)(k:B8):Nat:=if k∈xs then xs.idxOf k else 0
theorem GC(k:B8):WideAt.IsKeyLit (.string k):=by simp[WideAt.IsKeyLit]
theorem Ga(k:B8):(bs k).size=k.length:=by simp[bs,ByteArray.size]
def Ca(xs:List B8)(k:B8):Bool:=xs.contains k
def O8(xs:List B8)(i:Nat):ByteArray:=bs (xs.getD i [])
def GY(D:DataW Unit)(xs:List B8):Prop:=
 IsMap D/\∀k:B8,Maps.has D (.string k)=Ca xs k/\D.atKey (.string k) (.lit (.int .i64 0))=.lit (.int .i64 (BM xs k))
theorem GY.nil:GY (.map []) []:=⟨isMap_empty,fun _=>⟨rfl,rfl⟩⟩
theorem GY.put{D:DataW Unit}{xs:List B8}(h:GY D xs)(k:B8)(hk:k∉xs):GY (D.put (.string k) (.lit (.int .i64 xs.length))) (xs++[k]):=by
 refine⟨h.1.put _ _,fun j=>?_⟩;by_cases hj:j=k
 ·subst hj;rw[has_put_same h.1 (GC j),atKey_put_same h.1 (GC j)];refine⟨by simp[Ca],?_⟩;have:BM (xs++[j]) j=xs.length:=by simp[BM,List.idxOf_append,hk]
  rw[this]
 ·have hne:(Lit.string j)≠ .string k:=by intro e;exact hj (by injection e)
  rw[has_put_other hne,atKey_put_other hne,(h.2 j).1,(h.2 j).2];refine⟨by simp[Ca,hj],?_⟩
  have:BM (xs++[k]) j=BM xs j:=by
   by_cases hx:j∈xs
   ·simp[BM,hx,List.idxOf_append]
   ·simp[BM,hx,hj]
  rw[this]
def A3(w:World)(base:Nat)(mv lv:Value)(xs:List B8):Prop:=
 w.ownsRow base 9 1 lv xs.length (xs.map fun x=>.string (bs x))/\
 ((mv=.map none/\xs=[])\/∃r D,mv=.map (some r)/\base<=r/\w.ownsMap (H:=Unit) prog 9 (plainElem prog 3) r xs.length D/\GY D xs)
theorem Ko(w:World)(base sb:Nat)(mv lv:Value)(more:List Value)(t:TypeId)(xs:List B8)(k:B8)(hB:Ag w sb (mv::lv::more) t)(hS:A3 w base mv lv xs)(hk:k.length<=maxLen):
 Calls prog 34 #[.pointer (some ⟨sb,0,none⟩),.string (bs k)] w fun e w'=>e=.returned (.tuple #[.int .i64 (BM xs k:Nat),.bool (Ca xs k)])/\w'=w:=by
 have c0:w.cell? ⟨sb,0,none⟩=some mv:=hB.cell 0;have hkey:keyOf prog 9 (.string (bs k))=some (.string k):=keyOf_string_mk underlying9 (by rw[Ga];exact hk);rcases hS.2 with⟨rfl,rfl⟩|⟨r,D,rfl,hr,hown,hD⟩
 ·have hnil:=fun w:World=>look_nil (w:=w) true NW underlying98 (EL w) hkey;go_enter func34,ntmps34;go_wp2;go_ret2;exact⟨rfl,rfl⟩
 ·obtain⟨hh,ha⟩:=hD.2 k;obtain⟨p,HP⟩:∃p:Int,Hid (p=(BM xs k:Nat)):=⟨_,rfl⟩;rw[<-HP.out]at ha⊢;go_enter func34,ntmps34;go_wp2_with (at_lookup;refine wpList_lookup_own_ok_int _ rfl _ _ 98 rfl 9 3 .i64 NW underlying98 underlying3 (EL _) r xs.length D rfl hown _ _ rfl hkey ?_;intro cL hat hwc;rw[hh];have hcl:cL=p:=(by rw[ha]at hat;simpa using hat.symm);subst hcl);go_ret2;exact⟨rfl,rfl⟩
theorem MQ(w:World)(base sb:Nat)(mv lv:Value)(more:List Value)(t:TypeId)(xs:List B8)(k:B8)(hB:Ag w sb (mv::lv::more) t)(hS:A3 w base mv lv xs)(hk:k.length<=maxLen):
 Calls prog 76 #[.pointer (some ⟨sb,0,none⟩),.string (bs k)] w fun e w'=>e=.returned (.bool (Ca xs k))/\w'=w:=by
 obtain⟨p,HP⟩:∃p:Int,Hid (p=(BM xs k:Nat)):=⟨_,rfl⟩;go_enter func76,ntmps76;go_wp2_with (go_at_call 34;refine(Ko _ base sb mv lv more t xs k hB hS hk).mono ?_;rintro e w1 ⟨he,rfl⟩;rw[<-HP.out]at he;subst he)
 go_ret
 exact⟨rfl,rfl⟩
theorem KS(w:World)(base sb:Nat)(mv lv:Value)(more:List Value)(t:TypeId)(xs:List B8)(hB:Ag w sb (mv::lv::more) t)(hS:A3 w base mv lv xs):
 Calls prog 35 #[.pointer (some ⟨sb,0,none⟩)] w fun e w'=>e=.returned (.int .i64 xs.length)/\w'=w:=by
 obtain⟨ao,cap,rfl⟩:=Al hS.1;have c1:w.cell? ⟨sb,1,none⟩=some (.slice ao xs.length cap):=hB.cell 1;go_enter func35,ntmps35;go_wp2
 go_ret
 exact⟨rfl,rfl⟩
theorem DS{w:World}{base:Nat}{e:TypeId}{ao:Option Addr}{n cap:Nat}{xs:List Value}(h:w.ownsRow base e 1 (.slice ao n cap) n xs)(j:Nat)(hj:j<n):∃g,ao=some ⟨g,0,none⟩/\w.cell? ⟨g,j,none⟩=xs[j]? :=by
 rcases h.2 with⟨h1,h2⟩|⟨g,cap',cur,h1,_,_⟩
 ·omega
 ·injection h1 with h1
  refine⟨g,h1,?_⟩;subst h1;have hl:j<xs.length:=by have:=h.1;omega
  have:=h.cells (g:=g) rfl j xs[j] (by simp[hl]);rw[Addr.add_lit,Nat.zero_add]at this;rw[this];simp[hl]
theorem Px(w:World)(base sb:Nat)(mv lv:Value)(more:List Value)(t:TypeId)(xs:List B8)(hB:Ag w sb (mv::lv::more) t)(hS:A3 w base mv lv xs)(i:Nat)(hi:i<xs.length):
 Calls prog 90 #[.pointer (some ⟨sb,0,none⟩),.int .i64 i] w fun e w'=>e=.returned (.string (O8 xs i))/\w'=w:=by
 obtain⟨ao,cap,rfl⟩:=Al hS.1;have c1:w.cell? ⟨sb,1,none⟩=some (.slice ao xs.length cap):=hB.cell 1;obtain⟨g,rfl,hg⟩:=DS hS.1 i hi;have hgg:w.cell? ⟨g,i,none⟩=some (.string (O8 xs i)):=by rw[hg];simp[hi,O8]
 clear hg;go_enter func90,ntmps90;go_wp2
 go_ret
 exact⟨rfl,rfl⟩
structure AE(base sb:Nat)(T:List TypeId)(w w':World):Prop where
 os:w'.os=w.os
 tape:w'.tape=w.tape
 output:w'.output=w.output
 size:w.heap.size<=w'.heap.size
 low:∀k,k<base->k≠sb->w'.heap[k]? =w.heap[k]?
 ty:∀(k:Nat) (cs:List Value) (t:TypeId),k≠sb->t∉T->Ag w k cs t->Ag w' k cs t
theorem AE.refl(base sb:Nat)(T:List TypeId)(w:World):AE base sb T w w:=⟨rfl,rfl,rfl,Nat.le_refl _,fun _ _ _=>rfl,fun _ _ _ _ _ h=>h⟩
theorem AE.trans{base sb:Nat}{T:List TypeId}{u v w:World}(h:AE base sb T u v)(k:AE base sb T v w):AE base sb T u w:=
 ⟨k.os.trans h.os,k.tape.trans h.tape,k.output.trans h.output,Nat.le_trans h.size k.size,fun i hi hn=>(k.low i hi hn).trans (h.low i hi hn),fun i cs t h1 h2 h3=>k.ty i cs t h1 h2 (h.ty i cs t h1 h2 h3)⟩
theorem AE.kept{base sb:Nat}{T:List TypeId}{v w:World}(k:An sb v w)(hb:base<=v.heap.size):AE base sb T v w:=
 ⟨k.os,k.tape,k.output,k.size,fun i hi hn=>k.block i (by omega) hn,fun _ _ _ h1 _ h3=>h3.kept k h1⟩
theorem AE.own{base sb:Nat}{T:List TypeId}{w w':World}(h:AE base sb T w w'){base':Nat}{e:TypeId}{size:Nat}{v:Value}{n:Nat}{xs:List Value}(ho:w.ownsRow base' e size v n xs)(hne:v.ownBlock≠some sb)(hT:e∉T):w'.ownsRow base' e size v n xs:=by
 refine⟨ho.1,?_⟩;rcases ho.2 with h2|⟨g,cap,cur,hv,hg,hh,r⟩
 ·exact .inl h2
 ·refine .inr ⟨g,cap,cur,hv,hg,?_,r⟩;have hk:=h.ty g cur.toList e (by intro e';rw[hv]at hne;simp[Value.ownBlock,e']at hne) hT (by unfold Ag;simpa using hh);unfold Ag at hk;simpa using hk
theorem AE.grown{base sb:Nat}{T:List TypeId}{w w':World}{base':Nat}{e:TypeId}{size:Nat}{v:Value}{n:Nat}{xs:List Value}(hg:w.grownBy w' v.ownBlock)(ho:w.ownsRow base' e size v n xs)(hb:base<=base')(hw:base<=w.heap.size)(hT:e∈T):AE base sb T w w':=by refine⟨hg.os,hg.tape,hg.output,hg.size,fun k hk _=>hg.block k (by omega) (fun e=>by have:=B3 ho k e.symm;omega),fun k cs t _ h2 h3=>h3.grown hg (Ah ho h3 (fun e=>h2 (e▸hT)))⟩
theorem Cb{w:World}{P:Program}{k:TypeId}{R:Value->Option (DataW Unit×List MemPlace)}{r n:Nat}{D:DataW Unit}(h:w.ownsMap P k R r n D){b:Nat}{cs:List Value}{t:TypeId}(hb:Ag w b cs t):b≠r:=by obtain⟨es,clock,hh,_⟩:=h;intro e;subst e;unfold Ag at hb;rw[hb]at hh;simp at hh
theorem DC{w:World}{P:Program}{k:TypeId}{R:Value->Option (DataW Unit×List MemPlace)}{r n:Nat}{D:DataW Unit}(h:w.ownsMap P k R r n D){base:Nat}{e:TypeId}{size:Nat}{v:Value}{m:Nat}{xs:List Value}(ho:w.ownsRow base e size v m xs):v.ownBlock≠some r:=by
 rcases ho.2 with⟨rfl,_⟩|⟨g,cap,cur,rfl,_,hg,_⟩
 ·simp[Value.ownBlock]
 ·intro he;simp only[Value.ownBlock,Option.some.injEq]at he;exact Cb h (b:=g) (cs:=cur.toList) (t:=e) (by unfold Ag;simpa using hg) he
theorem AE.map{base sb:Nat}{T:List TypeId}{w w':World}{P:Program}{k:TypeId}{R:Value->Option (DataW Unit×List MemPlace)}{r n:Nat}{D:DataW Unit}(hg:w.grownBy w' (some r))(h:w.ownsMap P k R r n D)(hb:base<=r):AE base sb T w w':=
 ⟨hg.os,hg.tape,hg.output,hg.size,fun i hi _=>hg.block i (by have:=h.lt;omega) (by simp;omega),fun i cs t _ _ h3=>h3.grown hg (by intro e;simp at e;exact Cb h h3 e.symm)⟩
theorem Cc{w w':World}{P:Program}{k:TypeId}{R:Value->Option (DataW Unit×List MemPlace)}{r n b:Nat}{D:DataW Unit}(h:w.ownsMap P k R r n D)(hk:An b w w')(hn:r≠b):w'.ownsMap P k R r n D:=
 h.kept (row:=some b) ⟨hk.os,hk.tape,hk.output,hk.size,fun i hi hne=>hk.block i hi (fun e=>hne (by rw[e]))⟩ (by simpa using hn)
theorem EB:(prog.info? 9).map (fun i=>(i.zero,i.size,i.bytes))=some (some (.string ⟨#[]⟩),1,16):=by kernel_rfl
theorem KX(w:World)(base sb:Nat)(mv lv:Value)(more:List Value)(t:TypeId)(xs:List B8)(k:B8)(hB:Ag w sb (mv::lv::more) t)(hS:A3 w base mv lv xs)(hk:k.length<=maxLen)(hx:Ca xs k=true):
 Calls prog 52 #[.pointer (some ⟨sb,0,none⟩),.string (bs k)] w fun e w'=>e=.returned (.tuple #[.int .i64 (BM xs k),.bool false])/\w'=w:=by
 obtain⟨p,HP⟩:∃p:Int,Hid (p=(BM xs k:Nat)):=⟨_,rfl⟩;rw[<-HP.out];go_enter func52,ntmps52;go_wp2_with (go_at_call 34;refine(Ko _ base sb mv lv more t xs k hB hS hk).mono ?_;rintro e w1 ⟨he,rfl⟩;rw[hx,<-HP.out]at he;subst he);go_ret2;exact⟨rfl,rfl⟩
theorem KY(w:World)(base sb:Nat)(mv lv:Value)(more:List Value)(t:TypeId)(xs:List B8)(k:B8)(hB:Ag w sb (mv::lv::more) t)(hS:A3 w base mv lv xs)(hk:k.length<=maxLen)(hx:Ca xs k=false)(hn:xs.length<=100000)(ht:t≠9)(hbw:base<=w.heap.size):
 Calls prog 52 #[.pointer (some ⟨sb,0,none⟩),.string (bs k)] w fun e w'=>e=.returned (.tuple #[.int .i64 xs.length,.bool true])/\
  ∃mv' lv',Ag w' sb (mv'::lv'::more) t/\A3 w' base mv' lv' (xs++[k])/\AE base sb [9] w w':=by
 have hkx:k∉xs:=by simpa[Ca]using hx
 have c0:w.cell? ⟨sb,0,none⟩=some mv:=hB.cell 0;have c1:w.cell? ⟨sb,1,none⟩=some lv:=hB.cell 1;have hkey:keyOf prog 9 (.string (bs k))=some (.string k):=keyOf_string_mk underlying9 (by rw[Ga];exact hk);obtain⟨i1,hi1,hy0,hy1,hy2⟩:=info_parts EB;obtain⟨pp,HP⟩:∃p:Int,Hid (p=(BM xs k:Nat)):=⟨_,rfl⟩;have hF:=Ko w base sb mv lv more t xs k hB hS hk;rw[hx,<-HP.out]at hF;obtain⟨ao,cap,rfl⟩:=Al hS.1;rcases hS.2 with⟨rfl,rfl⟩|⟨r,D,rfl,hr,hown,hD⟩
 ·have hnil:=fun w:World=>run_eql_map_nil (P:=prog) w 98 9 3 none underlying98;have hmm:=@run_makeMap prog;have hslt:=hB.lt;have hsne:sb≠w.heap.size:=by omega
  have f0:=hB.frozen
  have hmade:((w.setCell ⟨sb,0,none⟩ (.map (some w.heap.size))).alloc (.map #[] 0)).ownsMap (H:=Unit) prog 9 (plainElem prog 3) w.heap.size 0 (.map []):=by
   have h:=World.ownsMap_made (H:=Unit) (w.setCell ⟨sb,0,none⟩ (.map (some w.heap.size))) prog 9 (plainElem prog 3);have e:(w.setCell ⟨sb,0,none⟩ (.map (some w.heap.size))).heap.size=w.heap.size:=by simp[World.setCell]
   rwa [e]at h
  have hB0:Ag ((w.setCell ⟨sb,0,none⟩ (.map (some w.heap.size))).alloc (.map #[] 0)) sb (.map (some w.heap.size):: .slice ao 0 cap::more) t:=(hB.setCell 0 (.map (some w.heap.size))).alloc (.map #[] 0);have hlr:=Dl hS.1 (k:=w.heap.size) (Nat.le_refl _);have hL0:=(AM hS.1 ⟨sb,0,none⟩ (.map (some w.heap.size)) (Ah hS.1 hB ht)).alloc (.map #[] 0);clear hx;go_enter func52,ntmps52;go_wp2_with (first|(go_at_call 34;refine hF.mono ?_;rintro e w9 ⟨rfl,hw9⟩;subst w9)|(at_mapUpdate;refine wpList_mapUpdate_own _ rfl _ _ _ 98 rfl 9 3 NW underlying98 _ w.heap.size 0 (.map []) rfl hmade (by unfold maxLen;omega) _ _ _ rfl rfl hkey _ [] (plainElem_int underlying3 (by decide)) ?_;intro w1 hown1 hg1;have hB1:=hB0.grown hg1 (by simpa using hsne.symm);have hL1:=hL0.kept hg1 (.inr hlr);have d0:=hB1.cell 0;have d1:=hB1.cell 1;have fB:=hB1.frozen;simp at d0 d1)|(at_builtin;refine AQ _ rfl _ _ 31 rfl base 9 i1 _ 1 16 underlying31 hi1 hy0 hy1 hy2 rfl (by decide) _ 0 [] rfl (hL1.alloc _) ⟨w1.heap.size,0,none⟩ 1 [.string (bs k)] rfl rfl (AP _ _ _) (by intro u hu;simp at hu;subst hu;rfl) (by unfold maxLen;omega) (by omega) (by have:=hg1.size;simp at this;simp;omega) ?_;intro g cap2 w2 hL2 hg2;have hB2:=(hB1.alloc _).grown hg2 (Ah hL1 hB1 ht);have e0:=hB2.cell 0;have e1:=hB2.cell 1;have fB2:=hB2.frozen;simp at e0 e1));go_ret2;have hb1:base<=w1.heap.size:=by have:=hg1.size;simp at this;omega
  refine⟨rfl,.map (some w.heap.size),.slice (some ⟨g,0,none⟩) 1 cap2,hB2.setCell 1 _,⟨?_,.inr ⟨w.heap.size,_,rfl,hbw,?_,GY.nil.put k hkx⟩⟩,?_⟩
  ·simpa using AM hL2 ⟨sb,1,none⟩ _ (Ah hL2 hB2 ht)
  ·have h2:=(hown1.alloc _).kept hg2 (Ne.symm hlr);simpa using Cc h2 (An.setCell (b:=sb) w2 (p:=⟨sb,1,none⟩) rfl _) hsne.symm
  ·refine(AE.kept (An.setCell (b:=sb) w (p:=⟨sb,0,none⟩) rfl _) hbw).trans ((AE.kept (An.alloc sb _ _) (by simp[World.setCell];omega)).trans ((AE.map hg1 hmade hbw).trans ((AE.kept (An.alloc sb w1 _) hb1).trans ((AE.grown hg2 (hL1.alloc _) (Nat.le_refl _) (by simp;omega) (by simp)).trans (AE.kept (An.setCell (b:=sb) w2 (p:=⟨sb,1,none⟩) rfl _) ?_)))));have:=hg2.size;simp at this;omega
 ·obtain⟨hh,ha⟩:=hD.2 k;rw[hx]at hh;have hnil:=fun w:World=>run_eql_map_nil (P:=prog) w 98 9 3 (some r) underlying98;have hwf:(Lit.int .i64 (xs.length:Int)).wf=true:=WalkArith.wf_i64 (n:=(xs.length:Int)) ⟨by omega,by omega⟩;have hsr:=Cb hown hB;have hlr:=DC hown hS.1;clear hx;go_enter func52,ntmps52;go_wp2_with (first|(go_at_call 34;refine hF.mono ?_;rintro e w9 ⟨rfl,hw9⟩;subst w9)|(at_mapUpdate;refine wpList_mapUpdate_own _ rfl _ _ _ 98 rfl 9 3 NW underlying98 _ r xs.length D rfl hown (by unfold maxLen;omega) _ _ _ rfl rfl hkey _ [] (plainElem_int underlying3 hwf) ?_;intro w1 hown1 hg1;have hB1:=hB.grown hg1 (by simpa using hsr.symm);have hL1:=hS.1.kept hg1 (.inr hlr);have d0:=hB1.cell 0;have d1:=hB1.cell 1;have fB:=hB1.frozen;simp at d0 d1)|(at_builtin;refine AQ _ rfl _ _ 31 rfl base 9 i1 _ 1 16 underlying31 hi1 hy0 hy1 hy2 rfl (by decide) _ xs.length (xs.map fun x=>.string (bs x)) rfl (hL1.alloc _) ⟨w1.heap.size,0,none⟩ 1 [.string (bs k)] rfl rfl (AP _ _ _) (by intro u hu;simp at hu;subst hu;rfl) (by unfold maxLen;omega) (by omega) (by have:=hg1.size;simp;omega) ?_;intro g cap2 w2 hL2 hg2;have hB2:=(hB1.alloc _).grown hg2 (Ah hL1 hB1 ht);have e0:=hB2.cell 0;have e1:=hB2.cell 1;have fB2:=hB2.frozen;simp at e0 e1));go_ret2;have hb1:base<=w1.heap.size:=by have:=hg1.size;omega
  refine⟨rfl,.map (some r),.slice (some ⟨g,0,none⟩) (xs.length+1) cap2,hB2.setCell 1 _,⟨?_,.inr ⟨r,_,rfl,hr,?_,hD.put k hkx⟩⟩,?_⟩
  ·simpa using AM hL2 ⟨sb,1,none⟩ _ (Ah hL2 hB2 ht)
  ·have h2:=(hown1.alloc _).kept hg2 (Ne.symm hlr);simpa using Cc h2 (An.setCell (b:=sb) w2 (p:=⟨sb,1,none⟩) rfl _) hsr.symm
  ·refine(AE.map hg1 hown hr).trans ((AE.kept (An.alloc sb w1 _) hb1).trans ((AE.grown hg2 (hL1.alloc _) (Nat.le_refl _) (by simp;omega) (by simp)).trans (AE.kept (An.setCell (b:=sb) w2 (p:=⟨sb,1,none⟩) rfl _) ?_)));have:=hg2.size;simp at this;omega
end
section
attribute [local go_sem] Ai Ae
open Go.RowKit
def Ap.atoms(d:Ap):List (B8×List B8):=(d.name,d.ts)::d.lits.map fun l=>(l.name,l.ts)
def Co(p:B8×List B8):List Value:=AW p.1 p.2
theorem Jg:(prog.info? 54).map (fun i=>(i.zero,i.size,i.bytes))=some (some (.agg #[.string ⟨#[]⟩,.int .i64 0,.string ⟨#[]⟩,.string ⟨#[]⟩,.string ⟨#[]⟩]),5,72):=by kernel_rfl
theorem D2{w:World}{base:Nat}{e:TypeId}{ao:Option Addr}{n cap size:Nat}{rows:List (List Value)}(h:w.ownsRow base e size (.slice ao n cap) n rows.flatten)(hr:∀r∈rows,r.length=size)(hl:rows.length=n)(i:Nat)(hi:i<n):
 ∃g,ao=some ⟨g,0,none⟩/\base<=g/\∀j,j<size->w.cell? ⟨g,i*size+j,none⟩=(rows.getD i [])[j]? :=by
 rcases h.2 with⟨h1,h2⟩|⟨g,cap',cur,h1,hb,_⟩
 ·omega
 ·injection h1 with h1
  refine⟨g,h1,hb,?_⟩;subst h1;intro j hj
  have key:∀(rows:List (List Value)) (i:Nat),(∀r∈rows,r.length=size)->i<rows.length->rows.flatten[i*size+j]? =(rows.getD i [])[j]? :=by
   intro rows
   induction rows with
   |nil=>intro i _ h;simp at h
   |cons r rs ih=>
    intro i hr hi;have h0:=hr r (by simp)
    cases i with
    |zero=>simp[List.getElem?_append_left (show j<r.length by omega)]
    |succ i=>rw[List.flatten_cons,List.getElem?_append_right (by rw[h0,Nat.succ_mul];omega),h0,show(i+1)*size+j-size=i*size+j by rw[Nat.succ_mul];omega];simp only[List.length_cons]at hi;rw[ih i (fun r hr'=>hr r (by simp[hr'])) (by omega)];simp
  have hk:=key rows i hr (by omega);have hlen:j<(rows.getD i []).length:=by rw[List.getD_eq_getElem?_getD,List.getElem?_eq_getElem (by omega:i<rows.length)];simp only[Option.getD_some];rw[hr _ (List.getElem_mem _)];exact hj
  rw[List.getElem?_eq_getElem hlen]at hk⊢;have:=h.cells (g:=g) rfl (i*size+j) _ hk;rw[Addr.add_lit,Nat.zero_add]at this;exact this
theorem GI{α:Type}(f:α->List Value)(l:List α):l.flatMap f=(l.map f).flatten:=by simp[List.flatMap]
def AG.nm(d:AG):ByteArray:=bs d.name
def AG.cn(d:AG):Int:=d.ts.length
def AG.t(d:AG)(i:Nat):ByteArray:=bs (d.ts.getD i [])
theorem AG.cells_eq(d:AG):d.cells=[.string d.nm,.int .i64 d.cn,.string (d.t 0),.string (d.t 1),.string (d.t 2),.bool d.neg]:=rfl
theorem AG.atom_eq(d:AG):Co (d.name,d.ts)=[.string d.nm,.int .i64 d.cn,.string (d.t 0),.string (d.t 1),.string (d.t 2)]:=rfl
theorem Ff{w:World}{base:Nat}{ao:Option Addr}{cap:Nat}{lits:List AG}(h:w.ownsRow base 130 6 (.slice ao lits.length cap) lits.length (lits.flatMap AG.cells))(i:Nat)(hi:i<lits.length):
 ∃g,ao=some ⟨g,0,none⟩/\g<w.heap.size/\w.cell? ⟨g,i*6,none⟩=some (.string lits[i].nm)/\w.cell? ⟨g,i*6+1,none⟩=some (.int .i64 lits[i].cn)/\w.cell? ⟨g,i*6+2,none⟩=some (.string (lits[i].t 0))/\
  w.cell? ⟨g,i*6+3,none⟩=some (.string (lits[i].t 1))/\w.cell? ⟨g,i*6+4,none⟩=some (.string (lits[i].t 2))/\w.cell? ⟨g,i*6+5,none⟩=some (.bool lits[i].neg):=by
 rw[GI]at h;obtain⟨g,rfl,hb,hc⟩:=D2 h (by intro r hr;simp at hr;obtain⟨d,_,rfl⟩:=hr;rfl) (by simp) i hi;have e:(lits.map AG.cells).getD i []=lits[i].cells:=by simp[hi]
 rw[e,AG.cells_eq]at hc;exact⟨g,rfl,(h.lt g rfl).2,hc 0 (by decide),hc 1 (by decide),hc 2 (by decide),hc 3 (by decide),hc 4 (by decide),hc 5 (by decide)⟩
theorem Gb(w:World)(base:Nat)(n0 t0 t1 t2:ByteArray)(c:Int)(ao:Option Addr)(cap:Nat)(name:B8)(ts:List B8)(lits:List AG)
 (hh:[Value.string n0,.int .i64 c,.string t0,.string t1,.string t2]=AW name ts)(hL:w.ownsRow base 130 6 (.slice ao lits.length cap) lits.length (lits.flatMap AG.cells))(hn:lits.length<=100):
 Calls prog 51 #[.agg #[.string n0,.int .i64 c,.string t0,.string t1,.string t2,.slice ao lits.length cap]] w fun e w'=>∃g cap',e=.returned (.slice (some ⟨g,0,none⟩) (lits.length+1) cap')/\
  w'.ownsRow w.heap.size 54 5 (.slice (some ⟨g,0,none⟩) (lits.length+1) cap') (lits.length+1) (((name,ts)::lits.map fun l=>(l.name,l.ts)).flatMap Co)/\Below w.heap.size w w':=by
 have HH:=AJ hh;clear hh;obtain⟨i1,hi1,hy0,hy1,hy2⟩:=info_parts Jg;go_enter func51,ntmps51;go_wp2
 go_loopw [3,12] (fun v i wr=>∃(k g cap':Nat),k<=lits.length/\i=.int .i64 k/\v=.slice (some ⟨g,0,none⟩) (k+1) cap'/\
  wr.ownsRow w.heap.size 54 5 (.slice (some ⟨g,0,none⟩) (k+1) cap') (k+1) (((name,ts)::(lits.take k).map fun l=>(l.name,l.ts)).flatMap Co)/\Below w.heap.size w wr) (fun _ i _=>lits.length-(intOf i).toNat)
 case atStart=>refine⟨0,w.heap.size+1,1,by omega,rfl,rfl,?_,((Below.refl _ _).alloc (Nat.le_refl _) _).alloc (by simp) _⟩;have h:=F7 (base:=w.heap.size) (BZ w (.cells #[Value.string n0,.int .i64 c,.string t0,.string t1,.string t2,.slice ao lits.length cap] 60) [Value.string n0,.int .i64 c,.string t0,.string t1,.string t2] 54) rfl (by omega);simp only[List.take_zero,List.map_nil,List.flatMap_cons,List.flatMap_nil,List.append_nil,Co];rw[<-HH.out];exact h
 case round=>
  obtain⟨k,g,cap',hk,rfl,rfl,hA,hB⟩:=hrel;by_cases hlt:k<lits.length
  ·obtain⟨g0,rfl,hg0,e0,e1,e2,e3,e4,e5⟩:=Ff hL k hlt;generalize hlk:lits[k]=L at*;have HLK:=AJ hlk;clear hlk;rw[<-hB.cell (p:=⟨g0,k*6,none⟩) hg0]at e0;rw[<-hB.cell (p:=⟨g0,k*6+1,none⟩) hg0]at e1;rw[<-hB.cell (p:=⟨g0,k*6+2,none⟩) hg0]at e2;rw[<-hB.cell (p:=⟨g0,k*6+3,none⟩) hg0]at e3;rw[<-hB.cell (p:=⟨g0,k*6+4,none⟩) hg0]at e4;rw[<-hB.cell (p:=⟨g0,k*6+5,none⟩) hg0]at e5;have hbw:w.heap.size<=wr.heap.size:=hB.size;have HT:Hid (((name,ts)::(lits.take k).map fun l=>(l.name,l.ts)).flatMap Co++[.string L.nm,.int .i64 L.cn,.string (L.t 0),.string (L.t 1),.string (L.t 2)]=((name,ts)::(lits.take (k+1)).map fun l=>(l.name,l.ts)).flatMap Co):=by show _=_;rw[List.take_succ_eq_append_getElem hlt,HLK.out,<-AG.atom_eq];simp[List.flatMap_append]
   go_wp2_with (at_builtin;refine AQ _ rfl _ _ 89 rfl w.heap.size 54 i1 _ 5 72 underlying89 hi1 hy0 hy1 hy2 rfl (by decide) _ (k+1) _ rfl ((hA.alloc _).alloc _) ⟨wr.heap.size+1,0,none⟩ 1 [.string L.nm,.int .i64 L.cn,.string (L.t 0),.string (L.t 1),.string (L.t 2)] rfl rfl (EU _ _ _ _) (by intro u hu;simp at hu;rcases hu with rfl|rfl|rfl|rfl|rfl<;>rfl) (by unfold maxLen;omega) (by omega) (by simp;omega) ?_;intro g3 cap3 w3 ho3 hg3);rw[HT.out]at ho3;have hB3:=((hB.alloc hbw _).alloc (by simp;omega) _).grown hg3 (by simp;omega) (B3 hA);exact⟨⟨k+1,g3,cap3,hlt,by go_num,rfl,ho3,hB3⟩,by simp[intOf];omega⟩
  ·have hke:k=lits.length:=by omega
   go_wp2
   go_ret
   subst hke;rw[List.take_length]at hA;exact⟨g,cap',rfl,hA,hB⟩
end
section
attribute [local go_sem] Ai Ae
open Go.RowKit Go.WideMaps Go.Maps
def B4(w:World)(base:Nat)(mv lv cv:Value)(xs:List B8)(ns:List Nat):Prop:=
 A3 w base mv lv xs/\ns.length=xs.length/\w.ownsRow base 3 1 cv xs.length (ns.map fun n=>.int .i64 (n:Nat))
theorem NZ:(prog.info? 3).map (fun i=>(i.zero,i.size,i.bytes))=some (some (.int .i64 0),1,8):=by kernel_rfl
theorem A3.keptX{base sb:Nat}{w w':World}{mv lv:Value}{xs:List B8}(h:A3 w base mv lv xs)(hk:An sb w w'){cs:List Value}{t:TypeId}(hb:Ag w sb cs t)(ht:t≠9):A3 w' base mv lv xs:=by
 refine⟨BB h.1 hk (Ah h.1 hb ht),?_⟩;rcases h.2 with h2|⟨r,D,hm,hr,ho,hD⟩
 ·exact .inl h2
 ·exact .inr ⟨r,D,hm,hr,Cc ho hk (Cb ho hb).symm,hD⟩
theorem A3.alloc{base:Nat}{w:World}{mv lv:Value}{xs:List B8}(h:A3 w base mv lv xs)(o:Obj):A3 (w.alloc o) base mv lv xs:=by
 refine⟨h.1.alloc o,?_⟩;rcases h.2 with h2|⟨r,D,hm,hr,ho,hD⟩
 ·exact .inl h2
 ·exact .inr ⟨r,D,hm,hr,ho.alloc o,hD⟩
theorem A3.drew{base:Nat}{w:World}{mv lv:Value}{xs:List B8}(h:A3 w base mv lv xs):A3 w.drew base mv lv xs:=h
theorem A3.drewN{base:Nat}{w:World}{mv lv:Value}{xs:List B8}(h:A3 w base mv lv xs)(n:Nat):A3 (w.drewN n) base mv lv xs:=h
theorem A3.grown{base:Nat}{w w':World}{mv lv:Value}{xs:List B8}(h:A3 w base mv lv xs){base':Nat}{e:TypeId}{size:Nat}{v:Value}{n:Nat}{ys:List Value}(hg:w.grownBy w' v.ownBlock)(ho:w.ownsRow base' e size v n ys)(he:e≠9):A3 w' base mv lv xs:=by
 refine⟨h.1.kept hg (CX h.1 ho (Ne.symm he)),?_⟩;rcases h.2 with h2|⟨r,D,hm,hr,hw,hD⟩
 ·exact .inl h2
 ·exact .inr ⟨r,D,hm,hr,hw.kept hg (Ne.symm (DC hw ho)),hD⟩
theorem Mu(xs:List B8)(k:B8)(h:Ca xs k=true):BM xs k<xs.length:=by
 have hk:k∈xs:=by simpa[Ca]using h
 simp only[BM,hk,if_pos];exact List.idxOf_lt_length_of_mem hk
def MA(ns:List Nat)(i:Nat):Int:=(ns.getD i 0:Nat)
theorem Fj(w:World)(base sb:Nat)(mv lv cv:Value)(xs:List B8)(ns:List Nat)(k:B8)(c:Int)(t0 t1 t2:ByteArray)(hB:Ag w sb [mv,lv,cv] 164)(hC:B4 w base mv lv cv xs ns)(hk:k.length<=maxLen)(hx:Ca xs k=true):
 Calls prog 56 #[.pointer (some ⟨sb,0,none⟩),.agg #[.string (bs k),.int .i64 c,.string t0,.string t1,.string t2]] w fun e w'=>e=.returned (.bool (MA ns (BM xs k)==c))/\
  Below w.heap.size w w':=by
 obtain⟨hS,hl,hN⟩:=hC;have hp:=Mu xs k hx;obtain⟨ao,cap,rfl⟩:=Al hN;obtain⟨g,rfl,hg⟩:=DS hN _ hp;have hgg:w.cell? ⟨g,BM xs k,none⟩=some (.int .i64 (MA ns (BM xs k))):=by rw[hg];simp[MA,hl,hp]
 have hgl:g<w.heap.size:=(hN.lt g rfl).2;have hbl:=hB.lt;have c2:w.cell? ⟨sb,2,none⟩=some (.slice (some ⟨g,0,none⟩) xs.length cap):=hB.cell 2;clear hg;have hL:=AJ hl;clear hl;obtain⟨p,HP⟩:∃p:Nat,Hid (p=BM xs k):=⟨_,rfl⟩;rw[<-HP.out]at hgg hp⊢;go_enter func56,ntmps56;go_wp2
 go_region_with (go_at_call 52;refine(KX _ base sb mv lv [_] 164 xs k (by exact(hB.alloc _).drew) (by exact(hS.alloc _).drew) hk hx).mono ?_;rintro e w1 ⟨he,rfl⟩;rw[<-HP.out]at he;subst he)
 all_goals go_wp2
 all_goals go_quiet (fail)
 all_goals go_wp2
 all_goals go_ret
 all_goals exact⟨rfl,below_drewN (((Below.refl _ w).alloc (Nat.le_refl _) _).drew) _⟩
theorem GJ(w:World)(base sb:Nat)(mv lv cv:Value)(xs:List B8)(ns:List Nat)(k:B8)(c:Nat)(t0 t1 t2:ByteArray)(hB:Ag w sb [mv,lv,cv] 164)(hC:B4 w base mv lv cv xs ns)(hk:k.length<=maxLen)(hx:Ca xs k=false)(hn:xs.length<=100000)(hbw:base<=w.heap.size):
 Calls prog 56 #[.pointer (some ⟨sb,0,none⟩),.agg #[.string (bs k),.int .i64 c,.string t0,.string t1,.string t2]] w fun e w'=>e=.returned (.bool true)/\
  ∃mv' lv' cv',Ag w' sb [mv',lv',cv'] 164/\B4 w' base mv' lv' cv' (xs++[k]) (ns++[c])/\AE base sb [9,3] w w':=by
 obtain⟨hS,hl,hN⟩:=hC;obtain⟨ao,cap,rfl⟩:=Al hN;obtain⟨i1,hi1,hy0,hy1,hy2⟩:=info_parts NZ;have hbl:=hB.lt;have HL:=AJ hl;clear hl;go_enter func56,ntmps56;go_wp2
 go_cut [5,6] from 7 to 37 (fun p q wx=>p=.int .i64 xs.length/\q=.bool true/\∃mv' lv',Ag wx sb [mv',lv',.slice ao xs.length cap] 164/\A3 wx base mv' lv' (xs++[k])/\wx.ownsRow base 3 1 (.slice ao xs.length cap) xs.length (ns.map fun n=>.int .i64 (n:Nat))/\
  Ag wx w.heap.size [.string (bs k),.int .i64 c,.string t0,.string t1,.string t2] 54/\AE base sb [9,3] w wx)
 case first=>
  go_region_with (go_at_call 52;refine(KY _ base sb mv lv [_] 164 xs k (by exact(hB.alloc _).drew) (by exact(hS.alloc _).drew) hk hx hn (by decide) (by simp;omega)).mono ?_;rintro e w1 ⟨rfl,mv',lv',hB1,hS1,hX1⟩)
  all_goals go_wp2_with fail
  all_goals go_meet
  all_goals
   have hbx:=hX1.ty w.heap.size [.string (bs k),.int .i64 c,.string t0,.string t1,.string t2] 54 (by omega) (by decide) (Ag.drew (Ag.new w _ _));have hNx:=hX1.own ((hN.alloc _).drew) (Ah hN hB (by decide)) (by decide);have hXw:AE base sb [9,3] w w1:=(AE.kept (((An.refl sb w).allocs _).drewn) hbw).trans ⟨hX1.os,hX1.tape,hX1.output,hX1.size,hX1.low,fun i cs t a b d=>hX1.ty i cs t a (by simp at b⊢;exact b.1) d⟩;exact⟨rfl,rfl,mv',lv',hB1,hS1,hNx,hbx,hXw⟩
 case rest=>
  obtain⟨rfl,rfl,mv',lv',hB1,hS1,hN1,hbx,hX1⟩:=hcut;have c2:wc.cell? ⟨sb,2,none⟩=some (.slice ao xs.length cap):=hB1.cell 2;have fB:=hB1.frozen;have x1:wc.cell? ⟨w.heap.size,1,none⟩=some (.int .i64 c):=hbx.cell 1;have hsw:sb<wc.heap.size:=hB1.lt;have hxw:w.heap.size<wc.heap.size:=hbx.lt;have hown:∀o3,((wc.alloc o3).drew).ownsRow base 3 1 (.slice ao xs.length cap) xs.length (ns.map fun n=>.int .i64 (n:Nat)):=fun o3=>hN1.alloc o3;have hnews:∀j u,[Value.int .i64 c][j]? =some u->((wc.alloc (.cells #[Value.int .i64 c] 3)).drew).cell? ((⟨wc.heap.size,0,none⟩:Addr).add j)=some u:=fun j u h=>AP wc [Value.int .i64 c] 3 j u h;have hone:∀u∈[Value.int .i64 (c:Nat)],u.oneCell'=true:=by intro u hu;simp at hu;subst hu;rfl
  have hpm:xs.length+1<=maxLen:=by unfold maxLen;omega
  have hpb:(xs.length+1)*8<=140737488355328:=by omega
  have hBB:∀o3,base<=((wc.alloc o3).drew).heap.size:=by intro o3;have:=hX1.size;simp;omega
  have hne1:=Ah hN1 hB1 (by decide);have hne2:=Ah hN1 hbx (by decide);go_wp2_with fail
  go_cut [] from 7 to 37 (fun wx=>∃g2 cap2,Ag wx sb [mv',lv',.slice (some ⟨g2,0,none⟩) (xs.length+1) cap2] 164/\A3 wx base mv' lv' (xs++[k])/\wx.ownsRow base 3 1 (.slice (some ⟨g2,0,none⟩) (xs.length+1) cap2) (xs.length+1) ((ns.map fun n=>.int .i64 (n:Nat))++[.int .i64 c])/\
   Ag wx w.heap.size [.string (bs k),.int .i64 c,.string t0,.string t1,.string t2] 54/\AE base sb [9,3] w wx)
  case first=>
   go_region_law (refine C7 rfl (.tmp 21) (.tmp 24) 22 rfl base 3 i1 _ 1 8 underlying22 hi1 hy0 hy1 hy2 rfl (by decide) (.slice ao xs.length cap) xs.length (ns.map fun n=>.int .i64 (n:Nat)) (by simp[Act.eval]) (hown _) ⟨wc.heap.size,0,none⟩ 1 1 [.int .i64 c] (by simp[Act.eval]) (by decide) rfl hnews hone hpm hpb (hBB _) ?_;intro g2 cap2 w3 hN3 hg3;have hB3:=(hB1.alloc _).drew.grown hg3 hne1;have d2:=hB3.cell 2;have fB3:=hB3.frozen;simp at d2;have hx3:=(hbx.alloc _).drew.grown hg3 hne2;have hS3:=(hS1.alloc _).drew.grown hg3 (hown _) (by decide);have hX3:=(hX1.trans (AE.kept (((An.refl sb wc).allocs _).drewn) (by have:=hX1.size;omega))).trans (AE.grown hg3 (hown _) (Nat.le_refl _) (hBB _) (by decide)))
   all_goals go_wp2_with fail
   all_goals go_meet
   all_goals
    exact⟨g2,cap2,hB3.setCell 2 _,hS3.keptX (An.setCell (b:=sb) w3 (p:=⟨sb,2,none⟩) rfl _) hB3 (by decide),AM hN3 ⟨sb,2,none⟩ _ (Ah hN3 hB3 (by decide)),hx3.setOther ⟨sb,2,none⟩ _ (by simp only[ne_eq];omega),hX3.trans (AE.kept (An.setCell (b:=sb) w3 (p:=⟨sb,2,none⟩) rfl _) (by have:=hX3.size;omega))⟩
  case rest=>
   clear c2 fB x1 hown hnews hone hBB hne1 hne2 hB1 hS1 hN1 hbx hX1 hsw hxw;obtain⟨g2,cap2,hB1,hS1,hN1,hbx,hX1⟩:=hcut;have c2:wc.cell? ⟨sb,2,none⟩=some (.slice (some ⟨g2,0,none⟩) (xs.length+1) cap2):=hB1.cell 2;have x1:wc.cell? ⟨w.heap.size,1,none⟩=some (.int .i64 c):=hbx.cell 1;have hgg:wc.cell? ⟨g2,xs.length,none⟩=some (.int .i64 c):=by obtain⟨g3,h3,h4⟩:=DS hN1 xs.length (by omega);simp at h3;subst h3;rw[h4];simp[HL.out]
   go_wp2_with fail
   go_quiet (fail)
   go_wp2
   go_ret
   refine⟨by simp,mv',lv',_,hB1,⟨hS1,by simp[HL.out],by rw[List.length_append,List.map_append];exact hN1⟩,hX1.trans (AE.kept (An.drewN sb wc _) (by have:=hX1.size;omega))⟩
structure Ap.WF(d:Ap):Prop where
 spots:d.spots.length=d.lits.length+1
 lits:d.lits.length<=4
 words:∀a∈d.atoms,a.1.length<=12/\a.2.length<=3/\∀t∈a.2,t.length<=12
 places:∀p∈d.spots,p.ps.length<=3
def Ap.nm(d:Ap):ByteArray:=bs d.name
def Ap.cn(d:Ap):Int:=d.ts.length
def Ap.t(d:Ap)(i:Nat):ByteArray:=bs (d.ts.getD i [])
theorem DQ{w:World}{base:Nat}{ao:Option Addr}{cap:Nat}{ds:List Ap}(h:Bu w base (.slice ao ds.length cap) ds)(i:Nat)(hi:i<ds.length):
 ∃g bo bcap so scap,ao=some ⟨g,0,none⟩/\g<w.heap.size/\w.cell? ⟨g,i*7,none⟩=some (.string ds[i].nm)/\w.cell? ⟨g,i*7+1,none⟩=some (.int .i64 ds[i].cn)/\w.cell? ⟨g,i*7+2,none⟩=some (.string (ds[i].t 0))/\
  w.cell? ⟨g,i*7+3,none⟩=some (.string (ds[i].t 1))/\w.cell? ⟨g,i*7+4,none⟩=some (.string (ds[i].t 2))/\w.cell? ⟨g,i*7+5,none⟩=some (.slice bo ds[i].lits.length bcap)/\w.cell? ⟨g,i*7+6,none⟩=some (.slice so ds[i].spots.length scap)/\
  w.ownsRow base 130 6 (.slice bo ds[i].lits.length bcap) ds[i].lits.length (ds[i].lits.flatMap AG.cells)/\w.ownsRow base 82 5 (.slice so ds[i].spots.length scap) ds[i].spots.length (ds[i].spots.flatMap Bo.cells):=by
 obtain⟨rows,ho,hl,hr⟩:=h;have hall:∀r∈rows,r.length=7:=by intro r hr';obtain⟨j,hj,rfl⟩:=List.getElem_of_mem hr';obtain⟨bv,sv,hc,_⟩:=hr j ds[j] rows[j] (by simp) (by simp);rw[hc];rfl
 obtain⟨g,rfl,hb,hc⟩:=D2 ho hall hl i hi;obtain⟨bv,sv,hcs,hbv,hsv⟩:=hr i ds[i] rows[i] (by simp) (by simp);have e:rows.getD i []=rows[i]:=by simp[show i<rows.length by omega]
 rw[e,hcs]at hc;obtain⟨bo,bcap,rfl⟩:=Al hbv;obtain⟨so,scap,rfl⟩:=Al hsv;exact⟨g,bo,bcap,so,scap,rfl,(ho.lt g rfl).2,hc 0 (by decide),hc 1 (by decide),hc 2 (by decide),hc 3 (by decide),hc 4 (by decide),hc 5 (by decide),hc 6 (by decide),hbv,hsv⟩
def PX(a:B8×List B8):ByteArray:=bs a.1
def PY(a:B8×List B8):Int:=a.2.length
def DY(a:B8×List B8)(i:Nat):ByteArray:=bs (a.2.getD i [])
theorem Fl{w:World}{base:Nat}{g n cap:Nat}{ats:List (B8×List B8)}(h:w.ownsRow base 54 5 (.slice (some ⟨g,0,none⟩) n cap) n (ats.flatMap Co))(hn:ats.length=n)(i:Nat)(hi:i<ats.length):
 w.cell? ⟨g,i*5,none⟩=some (.string (PX ats[i]))/\w.cell? ⟨g,i*5+1,none⟩=some (.int .i64 (PY ats[i]))/\w.cell? ⟨g,i*5+2,none⟩=some (.string (DY ats[i] 0))/\w.cell? ⟨g,i*5+3,none⟩=some (.string (DY ats[i] 1))/\w.cell? ⟨g,i*5+4,none⟩=some (.string (DY ats[i] 2)):=by
 rw[GI]at h;obtain⟨g',hg,hb,hc⟩:=D2 h (by intro r hr;simp at hr;obtain⟨a,b,_,rfl⟩:=hr;rfl) (by simp[hn]) i (by omega);simp at hg;subst hg;have e:(ats.map Co).getD i []=Co ats[i]:=by simp[hi]
 rw[e]at hc;exact⟨hc 0 (by decide),hc 1 (by decide),hc 2 (by decide),hc 3 (by decide),hc 4 (by decide)⟩
theorem H7{w:World}{base:Nat}{so:Option Addr}{cap:Nat}{sp:List Bo}(h:w.ownsRow base 82 5 (.slice so sp.length cap) sp.length (sp.flatMap Bo.cells))(i:Nat)(hi:i<sp.length):
 ∃g,so=some ⟨g,0,none⟩/\g<w.heap.size/\w.cell? ⟨g,i*5,none⟩=some (.int .i64 (sp[i].mark:Nat))/\w.cell? ⟨g,i*5+1,none⟩=some (.int .i64 (sp[i].np:Nat))/\w.cell? ⟨g,i*5+2,none⟩=some (.int .i64 (sp[i].ps.getD 0 0:Nat))/\
  w.cell? ⟨g,i*5+3,none⟩=some (.int .i64 (sp[i].ps.getD 1 0:Nat))/\w.cell? ⟨g,i*5+4,none⟩=some (.int .i64 (sp[i].ps.getD 2 0:Nat)):=by
 rw[GI]at h;obtain⟨g,rfl,hb,hc⟩:=D2 h (by intro r hr;simp at hr;obtain⟨a,_,rfl⟩:=hr;rfl) (by simp) i hi;have e:(sp.map Bo.cells).getD i []=sp[i].cells:=by simp[hi]
 rw[e]at hc;exact⟨g,rfl,(h.lt g rfl).2,hc 0 (by decide),hc 1 (by decide),hc 2 (by decide),hc 3 (by decide),hc 4 (by decide)⟩
def Ap.items(d:Ap):List (B8×Nat×Nat):=(d.atoms.zip d.spots).map fun x=>(x.1.1,x.1.2.length,x.2.np)
def B9:List B8->List Nat->List (B8×Nat×Nat)->Option Nat
 |_,_,[]=>none
 |xs,ns,(k,n,p)::r=>if Ca xs k=true then(if ns.getD (BM xs k) 0=n then B9 xs ns r else some p) else B9 (xs++[k]) (ns++[n]) r
def Cu(ds:List Ap):Option Nat:=B9 [] [] (ds.flatMap Ap.items)
def Da:Option Nat->Value
 |some p=>.tuple #[.int .i64 (p:Nat),.bool true]
 |none=>.tuple #[.int .i64 0,.bool false]
theorem FB(d:Ap)(h:d.WF):d.items.length=d.lits.length+1:=by simp[Ap.items,Ap.atoms,h.spots]
theorem MM(d:Ap)(h:d.WF)(j:Nat)(hj:j<d.lits.length+1):d.items[j]'(by rw[FB d h];exact hj)=((d.atoms[j]'(by simp[Ap.atoms];exact hj)).1,(d.atoms[j]'(by simp[Ap.atoms];exact hj)).2.length,(d.spots[j]'(by rw[h.spots];exact hj)).np):=by simp[Ap.items]
theorem Aq{w w':World}{base:Nat}{e:TypeId}{size:Nat}{v:Value}{n:Nat}{xs:List Value}(h:w.ownsRow base e size v n xs)(hb:Below w.heap.size w w'):w'.ownsRow base e size v n xs:=
 h.kept (row:=none) ⟨hb.os,hb.tape,hb.output,hb.size,fun k hk _=>hb.block k hk⟩ (by cases v.ownBlock<;>simp)
theorem Cj{w w':World}{P:Program}{k:TypeId}{R:Value->Option (DataW Unit×List MemPlace)}{r n:Nat}{D:DataW Unit}(h:w.ownsMap P k R r n D)(hb:Below w.heap.size w w'):w'.ownsMap P k R r n D:=
 h.kept (row:=none) ⟨hb.os,hb.tape,hb.output,hb.size,fun i hi _=>hb.block i hi⟩ (by simp)
theorem A3.below{base:Nat}{w w':World}{mv lv:Value}{xs:List B8}(h:A3 w base mv lv xs)(hb:Below w.heap.size w w'):A3 w' base mv lv xs:=by
 refine⟨Aq h.1 hb,?_⟩;rcases h.2 with h2|⟨r,D,hm,hr,ho,hD⟩
 ·exact .inl h2
 ·exact .inr ⟨r,D,hm,hr,Cj ho hb,hD⟩
theorem B4.below{base:Nat}{w w':World}{mv lv cv:Value}{xs:List B8}{ns:List Nat}(h:B4 w base mv lv cv xs ns)(hb:Below w.heap.size w w'):B4 w' base mv lv cv xs ns:=⟨h.1.below hb,h.2.1,Aq h.2.2 hb⟩
theorem Ac(w:World)(o:Obj):Below w.heap.size w (w.alloc o):=(Below.refl _ w).alloc (Nat.le_refl _) o
theorem AE.toBelow{base sb:Nat}{T:List TypeId}{w w':World}(h:AE base sb T w w')(hs:base<=sb):Below base w w':=⟨h.os,h.tape,h.output,h.size,fun k hk=>h.low k hk (by omega)⟩
def zC:List Value:=[.map none,.slice none 0 0,.slice none 0 0]
theorem Gc(w:World)(base:Nat)(ao:Option Addr)(cap:Nat)(ds:List Ap)(hP:Bu w base (.slice ao ds.length cap) ds)(hW:∀d∈ds,d.WF)(hn:ds.length<=40):
 Calls prog 48 #[.slice ao ds.length cap] w fun e w'=>e=.returned (Da (Cu ds))/\Below w.heap.size w w':=by
 go_enter func48,ntmps48;go_wp2
 go_loopw [11] (fun i wr=>∃(k:Nat) (xs:List B8) (ns:List Nat) (mv lv cv:Value),k<=ds.length/\i=.int .i64 k/\xs.length<=5*k/\Hid (B9 xs ns ((ds.drop k).flatMap Ap.items)=Cu ds)/\
  Ag wr w.heap.size [mv,lv,cv] 164/\B4 wr w.heap.size mv lv cv xs ns/\Below w.heap.size w wr) (fun i _=>ds.length-(intOf i).toNat)
 case atStart=>exact⟨0,[],[],.map none,.slice none 0 0,.slice none 0 0,by omega,rfl,by simp,rfl,Ag.new w zC 164,⟨⟨World.ownsRow_nil _ _ _ _,.inl ⟨rfl,rfl⟩⟩,rfl,World.ownsRow_nil _ _ _ _⟩,(Below.refl _ _).alloc (Nat.le_refl _) _⟩
 case round=>
  obtain⟨k,xs,ns,mv,lv,cv,hk,rfl,hxl,HX,hC,hCI,hB⟩:=hrel;by_cases hlt:k<ds.length
  ·obtain⟨g,bo,bcap,so,scap,rfl,hg,e0,e1,e2,e3,e4,e5,e6,hLb,hSp⟩:=DQ hP k hlt;have hwf:=hW ds[k] (List.getElem_mem hlt);have HD:Hid ((ds.drop k).flatMap Ap.items=ds[k].items++(ds.drop (k+1)).flatMap Ap.items):=by show(ds.drop k).flatMap Ap.items=_;rw[List.drop_eq_getElem_cons hlt];rfl
   generalize hdk:ds[k]=d at*;have HDK:=AJ hdk;clear hdk;have hbw:w.heap.size<wr.heap.size:=hC.lt;have hl4:=hwf.lits;have HSL:=AJ hwf.spots;rw[<-hB.cell (p:=⟨g,k*7,none⟩) hg]at e0;rw[<-hB.cell (p:=⟨g,k*7+1,none⟩) hg]at e1;rw[<-hB.cell (p:=⟨g,k*7+2,none⟩) hg]at e2;rw[<-hB.cell (p:=⟨g,k*7+3,none⟩) hg]at e3;rw[<-hB.cell (p:=⟨g,k*7+4,none⟩) hg]at e4;rw[<-hB.cell (p:=⟨g,k*7+5,none⟩) hg]at e5;rw[<-hB.cell (p:=⟨g,k*7+6,none⟩) hg]at e6;have hBr:Below wr.heap.size wr (wr.alloc (.cells #[Value.string d.nm,.int .i64 d.cn,.string (d.t 0),.string (d.t 1),.string (d.t 2),.slice bo d.lits.length bcap,.slice so d.spots.length scap] 124)):=Ac _ _;have hbx0:=Ag.new wr [Value.string d.nm,.int .i64 d.cn,.string (d.t 0),.string (d.t 1),.string (d.t 2),.slice bo d.lits.length bcap,.slice so d.spots.length scap] 124;go_wp2_with (go_at_call 51;refine(Gb _ base d.nm (d.t 0) (d.t 1) (d.t 2) d.cn bo bcap d.name d.ts d.lits rfl (by exact(Aq hLb hB).alloc _) (by omega)).mono ?_;rintro e w1 ⟨ga,capa,rfl,hA1,hB1⟩);clear e0 e1 e2 e3 e4 e5 e6;have hC1:=(hC.alloc _).below hB1;have hCI1:=(hCI.below hBr).below hB1;have hbx1:=hbx0.below hB1;have hBw1:Below w.heap.size w w1:=(hB.alloc (by omega) _).trans (hB1.mono (by simp;omega));clear hBr hbx0 hC hCI hB hB1;simp only[World.size_alloc]at hA1;generalize wr.heap.size=R at*
   go_loopw [19] (fun jv wr=>∃(j:Nat) (xs:List B8) (ns:List Nat) (mv lv cv:Value),j<=d.lits.length+1/\jv=.int .i64 j/\xs.length<=5*k+j/\Hid (B9 xs ns (d.items.drop j++(ds.drop (k+1)).flatMap Ap.items)=Cu ds)/\
    Ag wr w.heap.size [mv,lv,cv] 164/\B4 wr w.heap.size mv lv cv xs ns/\Ag wr R [.string d.nm,.int .i64 d.cn,.string (d.t 0),.string (d.t 1),.string (d.t 2),.slice bo d.lits.length bcap,.slice so d.spots.length scap] 124/\
    wr.ownsRow (R+1) 54 5 (.slice (some ⟨ga,0,none⟩) (d.lits.length+1) capa) (d.lits.length+1) (d.atoms.flatMap Co)/\Below w.heap.size w wr) (fun jv _=>d.lits.length+1-(intOf jv).toNat)
   case atStart=>
    refine⟨0,xs,ns,mv,lv,cv,by omega,rfl,by omega,?_,hC1,hCI1,hbx1,?_,hBw1⟩
    ·show B9 xs ns (d.items.drop 0++_)=Cu ds;rw[<-HX.out,HD.out];rfl
    ·exact hA1
   case round=>
    clear hC1 hCI1 hbx1 hBw1 hA1 HX hxl;obtain⟨j,xs,ns,mv,lv,cv,hj,rfl,hxl,HX,hC,hCI,hbx,hA,hB⟩:=hrel;have hbw1:w.heap.size<wr.heap.size:=hC.lt;have hbw2:R<wr.heap.size:=hbx.lt;have hal:d.atoms.length=d.lits.length+1:=by simp[Ap.atoms]
    by_cases hjl:j<d.lits.length+1
    ·obtain⟨a0,a1,a2,a3,a4⟩:=Fl hA hal j (by omega);have hitem:=MM d hwf j hjl;have hdrop:=List.drop_eq_getElem_cons (show j<d.items.length by rw[FB d hwf];exact hjl);rw[hitem]at hdrop;have hkl:=(hwf.words _ (List.getElem_mem (show j<d.atoms.length by omega))).1;obtain⟨a,ha⟩:∃a,d.atoms[j]=a:=⟨_,rfl⟩;obtain⟨q,hq⟩:∃q:Nat,(d.spots[j]'(by rw[hwf.spots];exact hjl)).np=q:=⟨_,rfl⟩;simp only[ha]at a0 a1 a2 a3 a4 hdrop hkl;rw[hq]at hdrop;have HQ:=AJ hq;have HDR:=AJ hdrop;clear ha hq hdrop hitem;obtain⟨nm,ts⟩:=a;have a0':wr.cell? ⟨ga,j*5,none⟩=some (.string (bs nm)):=a0;have a1':wr.cell? ⟨ga,j*5+1,none⟩=some (.int .i64 (ts.length:Nat)):=a1;clear a0 a1;have hkm:nm.length<=maxLen:=by unfold maxLen;simp only[]at hkl;omega
     have hbe:Below wr.heap.size wr (wr.alloc (.cells #[Value.string (bs nm),.int .i64 (ts.length:Nat),.string (DY (nm,ts) 0),.string (DY (nm,ts) 1),.string (DY (nm,ts) 2)] 54)):=Ac _ _;cases hx:Ca xs nm
     ·have HN:Hid (B9 (xs++[nm]) (ns++[ts.length]) (d.items.drop (j+1)++(ds.drop (k+1)).flatMap Ap.items)=Cu ds):=by show _=_;rw[<-HX.out,HDR.out];simp[B9,hx]
      go_wp2_with (go_at_call 56;refine(GJ _ w.heap.size w.heap.size mv lv cv xs ns nm ts.length _ _ _ (by exact hC.alloc _) (by exact hCI.below hbe) hkm hx (by omega) (by simp;omega)).mono ?_;rintro e w2 ⟨rfl,mv',lv',cv',hC2,hCI2,hX2⟩);have hB2:Below w.heap.size w w2:=(hB.trans (hbe.mono (by omega))).trans (hX2.toBelow (Nat.le_refl _));exact⟨⟨j+1,xs++[nm],ns++[ts.length],mv',lv',cv',hjl,by go_num,by simp;omega,HN,hC2,hCI2,hX2.ty _ _ _ (by omega) (by decide) (hbx.alloc _),hX2.own (hA.alloc _) (Ah hA hC (by decide)) (by decide),hB2⟩,by simp[intOf];omega⟩
     ·by_cases hnn:ns.getD (BM xs nm) 0=ts.length
      ·have hf:(MA ns (BM xs nm)==(ts.length:Int))=true:=by rw[beq_iff_eq];unfold MA;rw[hnn]
       have HN:Hid (B9 xs ns (d.items.drop (j+1)++(ds.drop (k+1)).flatMap Ap.items)=Cu ds):=by show _=_;rw[<-HX.out,HDR.out];simp only[List.cons_append,B9,hx,if_true];rw[if_pos hnn]
       clear hnn;go_wp2_with (go_at_call 56;refine(Fj _ w.heap.size w.heap.size mv lv cv xs ns nm _ _ _ _ (by exact hC.alloc _) (by exact hCI.below hbe) hkm hx).mono ?_;rintro e w2 ⟨rfl,hB2⟩);have hBB:=hbe.trans (hB2.mono (by simp));exact⟨⟨j+1,xs,ns,mv,lv,cv,hjl,by go_num,by omega,HN,hC.below hBB,hCI.below hBB,hbx.below hBB,Aq hA hBB,hB.trans (hBB.mono (by omega))⟩,by simp[intOf];omega⟩
      ·have hf:(MA ns (BM xs nm)==(ts.length:Int))=false:=by rw[beq_eq_false_iff_ne];unfold MA;omega
       have HE:Hid (Cu ds=some q):=by show Cu ds=some q;rw[<-HX.out,HDR.out];simp only[List.cons_append,B9,hx,if_true];rw[if_neg hnn]
       clear hnn;obtain⟨gs,rfl,hgs,s0,s1,s2,s3,s4⟩:=H7 hSp j (by rw[HSL.out];exact hjl);have hjs:j<d.spots.length:=by rw[HSL.out];exact hjl
       rw[HQ.out]at s1;go_wp2_with (go_at_call 56;refine(Fj _ w.heap.size w.heap.size mv lv cv xs ns nm _ _ _ _ (by exact hC.alloc _) (by exact hCI.below hbe) hkm hx).mono ?_;rintro e w2 ⟨rfl,hB2⟩;have hBB:=hbe.trans (hB2.mono (by simp));have b6:=(hbx.below hBB).cell 6;simp at b6;have hBw:=hB.trans (hBB.mono (by omega));rw[<-hBw.cell (p:=⟨gs,j*5+1,none⟩) hgs]at s1);go_ret2;rw[HE.out];exact⟨rfl,hBw⟩
    ·have hje:j=d.lits.length+1:=by omega
     have HN:Hid (B9 xs ns ((ds.drop (k+1)).flatMap Ap.items)=Cu ds):=by show _=_;rw[<-HX.out,show d.items.drop j=[] from List.drop_of_length_le (by rw[FB d hwf];omega)];rfl
     have hj5:j<=5:=by omega
     clear hje;go_wp2;exact⟨⟨k+1,xs,ns,mv,lv,cv,hlt,by go_num,by omega,HN,hC,hCI,hB⟩,by simp[intOf];omega⟩
  ·have hke:k=ds.length:=by omega
   have HE:Hid (Cu ds=none):=by show Cu ds=none;rw[<-HX.out,hke,List.drop_length];rfl
   clear hke;go_wp2;go_ret2;rw[HE.out];exact⟨rfl,hB⟩
end
end Go.Proofs.YtpbfiffgcgnidaaGreat
