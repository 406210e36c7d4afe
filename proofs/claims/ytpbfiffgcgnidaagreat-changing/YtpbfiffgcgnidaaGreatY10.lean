import Derived.Test.YtpbfiffgcgnidaaGreatYal
import Derived.Deep.CutRange
import Derived.Maps.OwnSet
import Derived.Maps.Keyed
import Derived.Test.YtpbfiffgcgnidaaGreatY9
namespace Go.Proofs.YtpbfiffgcgnidaaGreat
set_option maxRecDepth 100000
set_option maxHeartbeats 4000000
set_option linter.unusedSimpArgs false
open Go.Proofs.Tryz
section
attribute [local go_sem] drewN_alloc drewN_setCell
open Go.RowKit
def cnt(w:World)(b:Nat):Nat:=(intOf ((w.cell? ⟨b,1,none⟩).getD .nilIface)).toNat
theorem atom_args(w:World)(b:Nat)(s:ByteArray)(l:B8)(hR:Rd w b s l)(hs:s.size<=281474976710656)(h1:small (hd (skipL l))=true)
 (h2:tookB ((skipL l).drop (wlen smallDig 12 (skipL l))) 40=true):
 Calls prog 72 #[.pointer (some ⟨b,0,none⟩)] w fun e w'=>e=.returned (atomR s l).val/\Rd w' b s (atomR s l).rest/\Kept b w w':=by
 have hsm:s.size<=maxLen:=by unfold maxLen;omega
 have hlt:=hR.lt;obtain⟨m,HM⟩:∃m,Hid (m=skipL l):=⟨_,rfl⟩;rw[<-HM.out]at h1 h2;obtain⟨q,HQ⟩:∃q,Hid (q=m.drop (wlen smallDig 12 m)):=⟨_,rfl⟩;rw[<-HQ.out]at h2;obtain⟨nl,HNL⟩:∃nl,Hid (nl=m.take (wlen smallDig 12 m)):=⟨_,rfl⟩;obtain⟨nm,HN⟩:∃nm,Hid (nm=bs (m.take (wlen smallDig 12 m))):=⟨_,rfl⟩;obtain⟨p,HP⟩:∃p:Nat,Hid (p=posOf s m):=⟨_,rfl⟩;go_enter func72,ntmps72;go_wp2_with (first|(go_at_call 71;refine(skipBlanks_l _ b s l (by exact(hR.alloc _).alloc _) hsm).mono ?_;rintro e w1 ⟨rfl,hR1,hK1⟩;rw[<-HM.out]at hR1;have hA1:=(new_one w zA 54 zS 82).kept hK1 (by omega);have hS1:=(new_two w _ zS 82).kept hK1 (by omega);have c1:=hR1.c1;rw[<-HP.out]at c1;have hz1:w.heap.size+1<w1.heap.size:=hS1.lt)|(go_at_call 91;refine(peek_l _ b s m (by exact hR1) hsm).mono ?_;rintro e w' ⟨rfl,n,rfl⟩)|(go_at_call 92;refine(isSmall_c _ _).mono ?_;rintro e w' ⟨rfl,rfl⟩)|(go_at_call 93;refine(word1_l _ b s m (by exact(hR1.alloc _).drewN _) hs).mono ?_;rintro e w2 ⟨he,hR2,hK2⟩;rw[<-HN.out]at he;subst he;rw[<-HQ.out]at hR2;clear c1;have hsp2:=((Blk.new w1 [.int .i64 0,.int .i64 p,.int .i64 0,.int .i64 0,.int .i64 0] 82).drewN n).kept hK2 (by omega);have hA2:=((hA1.alloc _).drewN n).kept hK2 (by omega);have hS2:=((hS1.alloc _).drewN n).kept hK2 (by omega);have hz2:w1.heap.size<w2.heap.size:=hsp2.lt)|(go_at_call 73;refine(take_l _ b s q 40 (by exact hR2.alloc _) hsm (by omega)).mono ?_;rintro e w3 ⟨rfl,hR3,hK3⟩;have hat3:=(Blk.new w2 [.string nm,.int .i64 0,.string ⟨#[]⟩,.string ⟨#[]⟩,.string ⟨#[]⟩] 54).kept hK3 (by omega);have hsp3:=(hsp2.alloc _).kept hK3 (by omega);have hA3:=(hA2.alloc _).kept hK3 (by omega);have hS3:=(hS2.alloc _).kept hK3 (by omega);clear hA1 hS1 hsp2 hA2 hS2;have HK3:Hid (Kept b w w3):=((((((Kept.refl b w).allocs _).allocs _).trans hK1).allocs _).draws _|>.trans hK2|>.allocs _).trans hK3;clear hK1 hK2 hK3));obtain⟨q2,HQ2⟩:∃q2,Hid (q2=tookL q 40):=⟨_,rfl⟩;rw[<-HQ2.out]at hR3;have HR:Hid (atomR s l=argsR s nl p 3 [] [] q2):=by show atomR s l=argsR s nl p 3 [] [] q2;simp[atomR,<-HM.out,h1,<-HQ.out,h2,HNL.out,HP.out,HQ2.out]
 have HA3:Hid (Blk w3 w.heap.size zA 54):=hA3;have HS3:Hid (Blk w3 (w.heap.size+1) zS 82):=hS3;have HT3:Hid (Blk w3 w2.heap.size (atomCells nl []) 54):=by rw[HN.out,<-HNL.out]at hat3;exact hat3
 have HP3:Hid (Blk w3 w1.heap.size (spotCells 0 p []) 82):=hsp3;clear hA3 hS3 hat3 hsp3
 go_loopw [] (fun wr=>∃(ts:List B8) (ps:List Nat) (r:B8),ts.length=ps.length/\ts.length<3/\Hid (argsR s nl p (3-ts.length) ts ps r=argsR s nl p 3 [] [] q2)/\Rd wr b s r/\Hid (Blk wr w.heap.size zA 54)/\Hid (Blk wr (w.heap.size+1) zS 82)/\Hid (Blk wr w2.heap.size (atomCells nl ts) 54)/\Hid (Blk wr w1.heap.size (spotCells 0 p ps) 82)/\Hid (Kept b w wr)) (fun wr=>3-cnt wr w2.heap.size)
 case atStart=>exact⟨[],[],q2,rfl,by decide,rfl,hR3,HA3,HS3,HT3,HP3,HK3⟩
 case round=>
  clear HA3 HS3 HT3 HP3 HK3 hR3 hR2 hR1;obtain⟨ts,ps,r,hlen,hl3,HA,hRr,HA3,HS3,HT3,HP3,HK⟩:=hrel;cases hb:termB r
  ·have HE:Hid (atomR s l=⟨false,[],[],0,[],termL r⟩):=by show atomR s l=_;rw[HR.out,<-HA.out];obtain⟨f,hf⟩:∃f,3-ts.length=f+1:=⟨2-ts.length,by omega⟩;rw[hf];simp[argsR,hb]
   go_wp2_with (go_at_call 95;refine(term_not _ b s r (by exact hRr) hs hb).mono ?_;rintro e w4 ⟨rfl,hR4,hK4⟩;have HA4:=HA3.out.kept hK4 (by omega);have HS4:=HS3.out.kept hK4 (by omega);have KK4:=HK.out.trans hK4;obtain⟨a0,a1,a2,a3,a4⟩:=HA4.c5;have fA:=HA4.frozen;obtain⟨s0,s1,s2,s3,s4⟩:=HS4.c5;have fS:=HS4.frozen);rw[HE.out];exact bodyPost_ret (v:=AtR.val ⟨false,[],[],0,[],termL r⟩) (by simp[results,results72,go_sem,AtR.val,atomCells,spotCells,bs,a0,a1,a2,a3,a4,s0,s1,s2,s3,s4]) rfl ⟨rfl,(hR4.set5 _ (by omega) _ _ _ _ _).set5 _ (by omega) _ _ _ _ _,(KK4.set5 _ (by omega) _ _ _ _ _).set5 _ (by omega) _ _ _ _ _⟩
  ·match ts,ps,hlen,hl3 with
   |[],[],_,_=>
    go_wp2_with (go_at_call 95;refine(term_yes _ b s r (by exact hRr) hs hb).mono ?_;rintro e w4 ⟨rfl,hR4,hK4⟩;have HA4:=HA3.out.kept hK4 (by omega);have HS4:=HS3.out.kept hK4 (by omega);have HT4:=HT3.out.kept hK4 (by omega);have HP4:=HP3.out.kept hK4 (by omega);have KK4:=HK.out.trans hK4;obtain⟨t0,t1,t2,t3,t4⟩:=HT4.c5;obtain⟨p0,p1,p2,p3,p4⟩:=HP4.c5;have fT:=HT4.frozen;have fP:=HP4.frozen);go_region;go_wp2_with fail;have HTW:Blk ((((w4.setCell ⟨w1.heap.size,2,none⟩ (.int .i64 (posOf s (skipL r)))).setCell ⟨w2.heap.size,2,none⟩ (.string (bs (termW r)))).setCell ⟨w2.heap.size,1,none⟩ (.int .i64 1)).drew) w2.heap.size (atomCells nl [termW r]) 54:=(((HT4.setOther ⟨w1.heap.size,2,none⟩ _ (by simp only[ne_eq];omega)).setCell 2 _).setCell 1 _).drew;have HPW:Blk ((((w4.setCell ⟨w1.heap.size,2,none⟩ (.int .i64 (posOf s (skipL r)))).setCell ⟨w2.heap.size,2,none⟩ (.string (bs (termW r)))).setCell ⟨w2.heap.size,1,none⟩ (.int .i64 1)).drew) w1.heap.size (spotCells 0 p [posOf s (skipL r)]) 82:=(((HP4.setCell 2 _).setOther ⟨w2.heap.size,2,none⟩ _ (by simp only[ne_eq];omega)).setOther ⟨w2.heap.size,1,none⟩ _ (by simp only[ne_eq];omega)).drew;have HAW:Blk ((((w4.setCell ⟨w1.heap.size,2,none⟩ (.int .i64 (posOf s (skipL r)))).setCell ⟨w2.heap.size,2,none⟩ (.string (bs (termW r)))).setCell ⟨w2.heap.size,1,none⟩ (.int .i64 1)).drew) w.heap.size zA 54:=(((HA4.setOther ⟨w1.heap.size,2,none⟩ _ (by simp only[ne_eq];omega)).setOther ⟨w2.heap.size,2,none⟩ _ (by simp only[ne_eq];omega)).setOther ⟨w2.heap.size,1,none⟩ _ (by simp only[ne_eq];omega)).drew;have HSW:Blk ((((w4.setCell ⟨w1.heap.size,2,none⟩ (.int .i64 (posOf s (skipL r)))).setCell ⟨w2.heap.size,2,none⟩ (.string (bs (termW r)))).setCell ⟨w2.heap.size,1,none⟩ (.int .i64 1)).drew) (w.heap.size+1) zS 82:=(((HS4.setOther ⟨w1.heap.size,2,none⟩ _ (by simp only[ne_eq];omega)).setOther ⟨w2.heap.size,2,none⟩ _ (by simp only[ne_eq];omega)).setOther ⟨w2.heap.size,1,none⟩ _ (by simp only[ne_eq];omega)).drew;have HRW:Rd ((((w4.setCell ⟨w1.heap.size,2,none⟩ (.int .i64 (posOf s (skipL r)))).setCell ⟨w2.heap.size,2,none⟩ (.string (bs (termW r)))).setCell ⟨w2.heap.size,1,none⟩ (.int .i64 1)).drew) b s (termL r):=(((hR4.setOther ⟨w1.heap.size,2,none⟩ _ (by simp only[ne_eq];omega)).setOther ⟨w2.heap.size,2,none⟩ _ (by simp only[ne_eq];omega)).setOther ⟨w2.heap.size,1,none⟩ _ (by simp only[ne_eq];omega)).drew;have HKW:Kept b w ((((w4.setCell ⟨w1.heap.size,2,none⟩ (.int .i64 (posOf s (skipL r)))).setCell ⟨w2.heap.size,2,none⟩ (.string (bs (termW r)))).setCell ⟨w2.heap.size,1,none⟩ (.int .i64 1)).drew):=(((KK4.setNew (p:=⟨w1.heap.size,2,none⟩) (by simp only[];omega) _).setNew (p:=⟨w2.heap.size,2,none⟩) (by simp only[];omega) _).setNew (p:=⟨w2.heap.size,1,none⟩) (by simp only[];omega) _).drewn;refine(take_l _ b s (termL r) 44 (by exact HRW) hsm (by omega)).mono ?_;rintro e w5 ⟨rfl,hR5,hK5⟩;have HT5:=HTW.kept hK5 (by omega);have HP5:=HPW.kept hK5 (by omega);have HA5:=HAW.kept hK5 (by omega);have HS5:=HSW.kept hK5 (by omega);have HK5:=HKW.trans hK5;clear HTW HPW HAW HSW HRW HKW t0 t1 t2 t3 t4 p0 p1 p2 p3 p4 fT fP HT4 HP4 HA4 HS4 KK4 hK4 hR4;cases hc:tookB (termL r) 44
    ·have HE:Hid (atomR s l=⟨tookB (tookL (termL r) 44) 41,nl,[termW r],p,[posOf s (skipL r)],tookL (tookL (termL r) 44) 41⟩):=by show atomR s l=_;rw[HR.out,<-HA.out];show argsR s nl p (2+1) [] [] r=_;simp[argsR,hb,hc]
     obtain⟨t0,t1,t2,t3,t4⟩:=HT5.c5;obtain⟨p0,p1,p2,p3,p4⟩:=HP5.c5;go_wp2_with fail
     go_region_with (go_at_call 73;refine(take_l _ b s (tookL (termL r) 44) 41 (by exact hR5.drew) hsm (by omega)).mono ?_;rintro e w6 ⟨rfl,hR6,hK6⟩;have HT6:=HT5.drew.kept hK6 (by omega);have HP6:=HP5.drew.kept hK6 (by omega);have HA6:=HA5.drew.kept hK6 (by omega);have HS6:=HS5.drew.kept hK6 (by omega);have KK6:=HK5.drewn.trans hK6;obtain⟨t0',t1',t2',t3',t4'⟩:=HT6.c5;obtain⟨p0',p1',p2',p3',p4'⟩:=HP6.c5;obtain⟨a0,a1,a2,a3,a4⟩:=HA6.c5;have fA:=HA6.frozen;obtain⟨s0,s1,s2,s3,s4⟩:=HS6.c5;have fS:=HS6.frozen)
     all_goals go_wp2
     all_goals rw[HE.out]
     all_goals exact bodyPost_ret (v:=AtR.val ⟨tookB (tookL (termL r) 44) 41,nl,[termW r],p,[posOf s (skipL r)],tookL (tookL (termL r) 44) 41⟩) (by simp[results,results72,go_sem,AtR.val,atomCells,spotCells,a0,a1,a2,a3,a4,s0,s1,s2,s3,s4]) rfl ⟨rfl,(hR6.set5 _ (by omega) _ _ _ _ _).set5 _ (by omega) _ _ _ _ _,(KK6.set5 _ (by omega) _ _ _ _ _).set5 _ (by omega) _ _ _ _ _⟩
    ·have HX:Hid (argsR s nl p (3- [termW r].length) [termW r] [posOf s (skipL r)] (tookL (termL r) 44)=argsR s nl p 3 [] [] q2):=by show argsR s nl p (3- [termW r].length) [termW r] [posOf s (skipL r)] (tookL (termL r) 44)=_;rw[<-HA.out];show _=argsR s nl p (2+1) [] [] r;simp[argsR,hb,hc]
     go_wp2_with fail;exact⟨⟨[termW r],[posOf s (skipL r)],tookL (termL r) 44,rfl,by simp,HX,hR5,HA5,HS5,HT5,HP5,HK5⟩,by have e1:=HT5.cell 1;have e2:=HT3.out.cell 1;simp[cnt,e1,e2,atomCells,intOf]⟩
   |[x],[px],_,_=>
    go_wp2_with (go_at_call 95;refine(term_yes _ b s r (by exact hRr) hs hb).mono ?_;rintro e w4 ⟨rfl,hR4,hK4⟩;have HA4:=HA3.out.kept hK4 (by omega);have HS4:=HS3.out.kept hK4 (by omega);have HT4:=HT3.out.kept hK4 (by omega);have HP4:=HP3.out.kept hK4 (by omega);have KK4:=HK.out.trans hK4;obtain⟨t0,t1,t2,t3,t4⟩:=HT4.c5;obtain⟨p0,p1,p2,p3,p4⟩:=HP4.c5;have fT:=HT4.frozen;have fP:=HP4.frozen);go_region;go_wp2_with fail;have HTW:Blk ((((w4.setCell ⟨w1.heap.size,3,none⟩ (.int .i64 (posOf s (skipL r)))).setCell ⟨w2.heap.size,3,none⟩ (.string (bs (termW r)))).setCell ⟨w2.heap.size,1,none⟩ (.int .i64 2)).drew) w2.heap.size (atomCells nl [x,termW r]) 54:=(((HT4.setOther ⟨w1.heap.size,3,none⟩ _ (by simp only[ne_eq];omega)).setCell 3 _).setCell 1 _).drew;have HPW:Blk ((((w4.setCell ⟨w1.heap.size,3,none⟩ (.int .i64 (posOf s (skipL r)))).setCell ⟨w2.heap.size,3,none⟩ (.string (bs (termW r)))).setCell ⟨w2.heap.size,1,none⟩ (.int .i64 2)).drew) w1.heap.size (spotCells 0 p [px,posOf s (skipL r)]) 82:=(((HP4.setCell 3 _).setOther ⟨w2.heap.size,3,none⟩ _ (by simp only[ne_eq];omega)).setOther ⟨w2.heap.size,1,none⟩ _ (by simp only[ne_eq];omega)).drew;have HAW:Blk ((((w4.setCell ⟨w1.heap.size,3,none⟩ (.int .i64 (posOf s (skipL r)))).setCell ⟨w2.heap.size,3,none⟩ (.string (bs (termW r)))).setCell ⟨w2.heap.size,1,none⟩ (.int .i64 2)).drew) w.heap.size zA 54:=(((HA4.setOther ⟨w1.heap.size,3,none⟩ _ (by simp only[ne_eq];omega)).setOther ⟨w2.heap.size,3,none⟩ _ (by simp only[ne_eq];omega)).setOther ⟨w2.heap.size,1,none⟩ _ (by simp only[ne_eq];omega)).drew;have HSW:Blk ((((w4.setCell ⟨w1.heap.size,3,none⟩ (.int .i64 (posOf s (skipL r)))).setCell ⟨w2.heap.size,3,none⟩ (.string (bs (termW r)))).setCell ⟨w2.heap.size,1,none⟩ (.int .i64 2)).drew) (w.heap.size+1) zS 82:=(((HS4.setOther ⟨w1.heap.size,3,none⟩ _ (by simp only[ne_eq];omega)).setOther ⟨w2.heap.size,3,none⟩ _ (by simp only[ne_eq];omega)).setOther ⟨w2.heap.size,1,none⟩ _ (by simp only[ne_eq];omega)).drew;have HRW:Rd ((((w4.setCell ⟨w1.heap.size,3,none⟩ (.int .i64 (posOf s (skipL r)))).setCell ⟨w2.heap.size,3,none⟩ (.string (bs (termW r)))).setCell ⟨w2.heap.size,1,none⟩ (.int .i64 2)).drew) b s (termL r):=(((hR4.setOther ⟨w1.heap.size,3,none⟩ _ (by simp only[ne_eq];omega)).setOther ⟨w2.heap.size,3,none⟩ _ (by simp only[ne_eq];omega)).setOther ⟨w2.heap.size,1,none⟩ _ (by simp only[ne_eq];omega)).drew;have HKW:Kept b w ((((w4.setCell ⟨w1.heap.size,3,none⟩ (.int .i64 (posOf s (skipL r)))).setCell ⟨w2.heap.size,3,none⟩ (.string (bs (termW r)))).setCell ⟨w2.heap.size,1,none⟩ (.int .i64 2)).drew):=(((KK4.setNew (p:=⟨w1.heap.size,3,none⟩) (by simp only[];omega) _).setNew (p:=⟨w2.heap.size,3,none⟩) (by simp only[];omega) _).setNew (p:=⟨w2.heap.size,1,none⟩) (by simp only[];omega) _).drewn;refine(take_l _ b s (termL r) 44 (by exact HRW) hsm (by omega)).mono ?_;rintro e w5 ⟨rfl,hR5,hK5⟩;have HT5:=HTW.kept hK5 (by omega);have HP5:=HPW.kept hK5 (by omega);have HA5:=HAW.kept hK5 (by omega);have HS5:=HSW.kept hK5 (by omega);have HK5:=HKW.trans hK5;clear HTW HPW HAW HSW HRW HKW t0 t1 t2 t3 t4 p0 p1 p2 p3 p4 fT fP HT4 HP4 HA4 HS4 KK4 hK4 hR4;cases hc:tookB (termL r) 44
    ·have HE:Hid (atomR s l=⟨tookB (tookL (termL r) 44) 41,nl,[x,termW r],p,[px,posOf s (skipL r)],tookL (tookL (termL r) 44) 41⟩):=by show atomR s l=_;rw[HR.out,<-HA.out];show argsR s nl p (1+1) [x] [px] r=_;simp[argsR,hb,hc]
     obtain⟨t0,t1,t2,t3,t4⟩:=HT5.c5;obtain⟨p0,p1,p2,p3,p4⟩:=HP5.c5;go_wp2_with fail
     go_region_with (go_at_call 73;refine(take_l _ b s (tookL (termL r) 44) 41 (by exact hR5.drew) hsm (by omega)).mono ?_;rintro e w6 ⟨rfl,hR6,hK6⟩;have HT6:=HT5.drew.kept hK6 (by omega);have HP6:=HP5.drew.kept hK6 (by omega);have HA6:=HA5.drew.kept hK6 (by omega);have HS6:=HS5.drew.kept hK6 (by omega);have KK6:=HK5.drewn.trans hK6;obtain⟨t0',t1',t2',t3',t4'⟩:=HT6.c5;obtain⟨p0',p1',p2',p3',p4'⟩:=HP6.c5;obtain⟨a0,a1,a2,a3,a4⟩:=HA6.c5;have fA:=HA6.frozen;obtain⟨s0,s1,s2,s3,s4⟩:=HS6.c5;have fS:=HS6.frozen)
     all_goals go_wp2
     all_goals rw[HE.out]
     all_goals exact bodyPost_ret (v:=AtR.val ⟨tookB (tookL (termL r) 44) 41,nl,[x,termW r],p,[px,posOf s (skipL r)],tookL (tookL (termL r) 44) 41⟩) (by simp[results,results72,go_sem,AtR.val,atomCells,spotCells,a0,a1,a2,a3,a4,s0,s1,s2,s3,s4]) rfl ⟨rfl,(hR6.set5 _ (by omega) _ _ _ _ _).set5 _ (by omega) _ _ _ _ _,(KK6.set5 _ (by omega) _ _ _ _ _).set5 _ (by omega) _ _ _ _ _⟩
    ·have HX:Hid (argsR s nl p (3- [x,termW r].length) [x,termW r] [px,posOf s (skipL r)] (tookL (termL r) 44)=argsR s nl p 3 [] [] q2):=by show argsR s nl p (3- [x,termW r].length) [x,termW r] [px,posOf s (skipL r)] (tookL (termL r) 44)=_;rw[<-HA.out];show _=argsR s nl p (1+1) [x] [px] r;simp[argsR,hb,hc]
     go_wp2_with fail;exact⟨⟨[x,termW r],[px,posOf s (skipL r)],tookL (termL r) 44,rfl,by simp,HX,hR5,HA5,HS5,HT5,HP5,HK5⟩,by have e1:=HT5.cell 1;have e2:=HT3.out.cell 1;simp[cnt,e1,e2,atomCells,intOf]⟩
   |[x,y],[px,py],_,_=>
    have HE:Hid (atomR s l=⟨tookB (termL r) 41,nl,[x,y,termW r],p,[px,py,posOf s (skipL r)],tookL (termL r) 41⟩):=by show atomR s l=_;rw[HR.out,<-HA.out];show argsR s nl p (0+1) [x,y] [px,py] r=_;simp[argsR,hb]
    go_wp2_with (go_at_call 95;refine(term_yes _ b s r (by exact hRr) hs hb).mono ?_;rintro e w4 ⟨rfl,hR4,hK4⟩;have HA4:=HA3.out.kept hK4 (by omega);have HS4:=HS3.out.kept hK4 (by omega);have HT4:=HT3.out.kept hK4 (by omega);have HP4:=HP3.out.kept hK4 (by omega);have KK4:=HK.out.trans hK4;obtain⟨t0,t1,t2,t3,t4⟩:=HT4.c5;obtain⟨p0,p1,p2,p3,p4⟩:=HP4.c5;have fT:=HT4.frozen;have fP:=HP4.frozen);go_region;go_wp2_with fail;have HTW:Blk ((((w4.setCell ⟨w1.heap.size,4,none⟩ (.int .i64 (posOf s (skipL r)))).setCell ⟨w2.heap.size,4,none⟩ (.string (bs (termW r)))).setCell ⟨w2.heap.size,1,none⟩ (.int .i64 3)).drew) w2.heap.size (atomCells nl [x,y,termW r]) 54:=(((HT4.setOther ⟨w1.heap.size,4,none⟩ _ (by simp only[ne_eq];omega)).setCell 4 _).setCell 1 _).drew;have HPW:Blk ((((w4.setCell ⟨w1.heap.size,4,none⟩ (.int .i64 (posOf s (skipL r)))).setCell ⟨w2.heap.size,4,none⟩ (.string (bs (termW r)))).setCell ⟨w2.heap.size,1,none⟩ (.int .i64 3)).drew) w1.heap.size (spotCells 0 p [px,py,posOf s (skipL r)]) 82:=(((HP4.setCell 4 _).setOther ⟨w2.heap.size,4,none⟩ _ (by simp only[ne_eq];omega)).setOther ⟨w2.heap.size,1,none⟩ _ (by simp only[ne_eq];omega)).drew;have HAW:Blk ((((w4.setCell ⟨w1.heap.size,4,none⟩ (.int .i64 (posOf s (skipL r)))).setCell ⟨w2.heap.size,4,none⟩ (.string (bs (termW r)))).setCell ⟨w2.heap.size,1,none⟩ (.int .i64 3)).drew) w.heap.size zA 54:=(((HA4.setOther ⟨w1.heap.size,4,none⟩ _ (by simp only[ne_eq];omega)).setOther ⟨w2.heap.size,4,none⟩ _ (by simp only[ne_eq];omega)).setOther ⟨w2.heap.size,1,none⟩ _ (by simp only[ne_eq];omega)).drew;have HSW:Blk ((((w4.setCell ⟨w1.heap.size,4,none⟩ (.int .i64 (posOf s (skipL r)))).setCell ⟨w2.heap.size,4,none⟩ (.string (bs (termW r)))).setCell ⟨w2.heap.size,1,none⟩ (.int .i64 3)).drew) (w.heap.size+1) zS 82:=(((HS4.setOther ⟨w1.heap.size,4,none⟩ _ (by simp only[ne_eq];omega)).setOther ⟨w2.heap.size,4,none⟩ _ (by simp only[ne_eq];omega)).setOther ⟨w2.heap.size,1,none⟩ _ (by simp only[ne_eq];omega)).drew;have HRW:Rd ((((w4.setCell ⟨w1.heap.size,4,none⟩ (.int .i64 (posOf s (skipL r)))).setCell ⟨w2.heap.size,4,none⟩ (.string (bs (termW r)))).setCell ⟨w2.heap.size,1,none⟩ (.int .i64 3)).drew) b s (termL r):=(((hR4.setOther ⟨w1.heap.size,4,none⟩ _ (by simp only[ne_eq];omega)).setOther ⟨w2.heap.size,4,none⟩ _ (by simp only[ne_eq];omega)).setOther ⟨w2.heap.size,1,none⟩ _ (by simp only[ne_eq];omega)).drew;have HKW:Kept b w ((((w4.setCell ⟨w1.heap.size,4,none⟩ (.int .i64 (posOf s (skipL r)))).setCell ⟨w2.heap.size,4,none⟩ (.string (bs (termW r)))).setCell ⟨w2.heap.size,1,none⟩ (.int .i64 3)).drew):=(((KK4.setNew (p:=⟨w1.heap.size,4,none⟩) (by simp only[];omega) _).setNew (p:=⟨w2.heap.size,4,none⟩) (by simp only[];omega) _).setNew (p:=⟨w2.heap.size,1,none⟩) (by simp only[];omega) _).drewn;clear HT4 HP4 HA4 HS4 KK4 hK4 hR4;generalize hWW:((((w4.setCell ⟨w1.heap.size,4,none⟩ (.int .i64 (posOf s (skipL r)))).setCell ⟨w2.heap.size,4,none⟩ (.string (bs (termW r)))).setCell ⟨w2.heap.size,1,none⟩ (.int .i64 3)).drew)=w5 at*;have HT5:=HTW;have HP5:=HPW;have HA5:=HAW;have HS5:=HSW;have hR5:=HRW;have HK5:=HKW;clear hWW HTW HPW HAW HSW HRW HKW t0 t1 t2 t3 t4 p0 p1 p2 p3 p4 fT fP;obtain⟨t0,t1,t2,t3,t4⟩:=HT5.c5;obtain⟨p0,p1,p2,p3,p4⟩:=HP5.c5
    go_region_with (go_at_call 73;refine(take_l _ b s (termL r) 41 (by exact hR5.drew) hsm (by omega)).mono ?_;rintro e w6 ⟨rfl,hR6,hK6⟩;have HT6:=HT5.drew.kept hK6 (by omega);have HP6:=HP5.drew.kept hK6 (by omega);have HA6:=HA5.drew.kept hK6 (by omega);have HS6:=HS5.drew.kept hK6 (by omega);have KK6:=HK5.drewn.trans hK6;obtain⟨t0',t1',t2',t3',t4'⟩:=HT6.c5;obtain⟨p0',p1',p2',p3',p4'⟩:=HP6.c5;obtain⟨a0,a1,a2,a3,a4⟩:=HA6.c5;have fA:=HA6.frozen;obtain⟨s0,s1,s2,s3,s4⟩:=HS6.c5;have fS:=HS6.frozen)
    all_goals go_wp2
    all_goals rw[HE.out]
    all_goals exact bodyPost_ret (v:=AtR.val ⟨tookB (termL r) 41,nl,[x,y,termW r],p,[px,py,posOf s (skipL r)],tookL (termL r) 41⟩) (by simp[results,results72,go_sem,AtR.val,atomCells,spotCells,a0,a1,a2,a3,a4,s0,s1,s2,s3,s4]) rfl ⟨rfl,(hR6.set5 _ (by omega) _ _ _ _ _).set5 _ (by omega) _ _ _ _ _,(KK6.set5 _ (by omega) _ _ _ _ _).set5 _ (by omega) _ _ _ _ _⟩
end
section
open Go.RowKit
theorem atom_l(w:World)(b:Nat)(s:ByteArray)(l:B8)(hR:Rd w b s l)(hs:s.size<=281474976710656):
 Calls prog 72 #[.pointer (some ⟨b,0,none⟩)] w fun e w'=>e=.returned (atomR s l).val/\Rd w' b s (atomR s l).rest/\Kept b w w':=by
 cases h1:small (hd (skipL l))
 ·exact atom_no w b s l hR hs h1
 ·cases h2:tookB ((skipL l).drop (wlen smallDig 12 (skipL l))) 40
  ·exact atom_bare w b s l hR hs h1 h2
  ·exact atom_args w b s l hR hs h1 h2
end
section
attribute [local go_sem] drewN_alloc drewN_setCell
open Go.RowKit
def litCells(n:B8)(ts:List B8)(neg:Bool):List Value:=
 [.string (bs n),.int .i64 ts.length,.string (bs (ts.getD 0 [])),.string (bs (ts.getD 1 [])),.string (bs (ts.getD 2 [])),.bool neg]
def litNeg(l:B8):Bool:=tookB l 33
def litMark(s:ByteArray)(l:B8):Nat:=if tookB l 33=true then posOf s (tookL l 33)-1 else 0
def litAt(s:ByteArray)(l:B8):AtR:=atomR s (tookL l 33)
def litVal(s:ByteArray)(l:B8):Value:=
 .tuple #[.agg (litCells (litAt s l).name (litAt s l).ts (litNeg l)).toArray,.agg (spotCells (litMark s l) (litAt s l).np (litAt s l).ps).toArray,.bool (litAt s l).ok]
theorem skipL_le(l:B8):(skipL l).length<=l.length:=by
 induction l with
 |nil=>exact Nat.le_refl _
 |cons c l ih=>unfold skipL;split<;>simp<;>omega
theorem tookL_lt(l:B8)(m:Int)(h:tookB l m=true)(hm:0<m):(tookL l m).length<l.length:=by
 have h':=h;unfold tookB at h;have hl:=skipL_le l;simp only[tookL,h',if_pos]
 cases hs:skipL l with
 |nil=>rw[hs]at h;simp[hd]at h;omega
 |cons c r=>rw[hs]at hl;simp at hl⊢;omega
theorem Rd.len{w:World}{b:Nat}{s:ByteArray}{l:B8}(h:Rd w b s l):l.length<=s.size:=by obtain⟨i,hi,rfl,hr⟩:=h;simp
def AtR.nm(r:AtR):ByteArray:=bs r.name
def AtR.cn(r:AtR):Int:=r.ts.length
def AtR.t(r:AtR)(i:Nat):ByteArray:=bs (r.ts.getD i [])
def AtR.np'(r:AtR):Int:=r.np
def AtR.p(r:AtR)(i:Nat):Int:=(r.ps.getD i 0:Nat)
theorem AtR.val_eq(r:AtR):r.val=.tuple #[.agg #[.string r.nm,.int .i64 r.cn,.string (r.t 0),.string (r.t 1),.string (r.t 2)],.agg #[.int .i64 0,.int .i64 r.np',.int .i64 (r.p 0),.int .i64 (r.p 1),.int .i64 (r.p 2)],.bool r.ok]:=rfl
theorem litVal_no(s:ByteArray)(l r0:B8)(A:AtR)(h0:r0=tookL l 33)(hA:A=atomR s r0)(h1:tookB l 33=false):
 litVal s l=.tuple #[.agg #[.string A.nm,.int .i64 A.cn,.string (A.t 0),.string (A.t 1),.string (A.t 2),.bool false],.agg #[.int .i64 0,.int .i64 A.np',.int .i64 (A.p 0),.int .i64 (A.p 1),.int .i64 (A.p 2)],.bool A.ok]:=by
 subst h0;subst hA;simp only[litVal,litNeg,litMark,h1];rfl
theorem litVal_yes(s:ByteArray)(l r0:B8)(A:AtR)(h0:r0=tookL l 33)(hA:A=atomR s r0)(h1:tookB l 33=true)(hp:1<=posOf s r0):
 litVal s l=.tuple #[.agg #[.string A.nm,.int .i64 A.cn,.string (A.t 0),.string (A.t 1),.string (A.t 2),.bool true],.agg #[.int .i64 ((posOf s r0:Int)-1),.int .i64 A.np',.int .i64 (A.p 0),.int .i64 (A.p 1),.int .i64 (A.p 2)],.bool A.ok]:=by
 have e:((posOf s r0:Nat):Int)-1=((posOf s r0-1:Nat):Int):=by omega
 rw[e];subst h0;subst hA;simp only[litVal,litNeg,litMark,h1];rfl
theorem Kept.set6{b:Nat}{u w:World}(h:Kept b u w)(A:Nat)(hA:u.heap.size<=A)(x0 x1 x2 x3 x4 x5:Value):
 Kept b u ((((((w.setCell ⟨A,0,none⟩ x0).setCell ⟨A,1,none⟩ x1).setCell ⟨A,2,none⟩ x2).setCell ⟨A,3,none⟩ x3).setCell ⟨A,4,none⟩ x4).setCell ⟨A,5,none⟩ x5):=
 (h.set5 A hA x0 x1 x2 x3 x4).setNew (p:=⟨A,5,none⟩) hA x5
theorem Rd.set6{w:World}{b:Nat}{s:ByteArray}{l:B8}(h:Rd w b s l)(A:Nat)(hA:b≠A)(x0 x1 x2 x3 x4 x5:Value):
 Rd ((((((w.setCell ⟨A,0,none⟩ x0).setCell ⟨A,1,none⟩ x1).setCell ⟨A,2,none⟩ x2).setCell ⟨A,3,none⟩ x3).setCell ⟨A,4,none⟩ x4).setCell ⟨A,5,none⟩ x5) b s l:=
 (h.set5 A hA x0 x1 x2 x3 x4).setOther ⟨A,5,none⟩ x5 hA
def zL:List Value:=[.string ⟨#[]⟩,.int .i64 0,.string ⟨#[]⟩,.string ⟨#[]⟩,.string ⟨#[]⟩,.bool false]
theorem literal_no(w:World)(b:Nat)(s:ByteArray)(l:B8)(hR:Rd w b s l)(hs:s.size<=281474976710656)(h1:tookB l 33=false):
 Calls prog 96 #[.pointer (some ⟨b,0,none⟩)] w fun e w'=>e=.returned (litVal s l)/\Rd w' b s (litAt s l).rest/\Kept b w w':=by
 have hsm:s.size<=maxLen:=by unfold maxLen;omega
 have hlt:=hR.lt;have hll:=hR.len;obtain⟨r0,H0⟩:∃r0,Hid (r0=tookL l 33):=⟨_,rfl⟩;obtain⟨A,HA⟩:∃A,Hid (A=atomR s r0):=⟨_,rfl⟩;have HE2:Hid ((litAt s l).rest=A.rest):=by show(litAt s l).rest=_;simp[litAt,<-H0.out,<-HA.out]
 rw[litVal_no s l r0 A H0.out HA.out h1,HE2.out];go_enter func96,ntmps96;go_wp2_with (first|(go_at_call 73;refine(take_l _ b s l 33 (by exact(hR.alloc _).alloc _) hsm (by omega)).mono ?_;rintro e w1 ⟨rfl,hR1,hK1⟩;rw[<-H0.out]at hR1;have c1:=hR1.c1;have hA1:=(new_one w zL 130 zS 82).kept hK1 (by omega);have hS1:=(new_two w _ zS 82).kept hK1 (by omega);have hz1:w.heap.size+1<w1.heap.size:=hS1.lt)|(go_at_call 72;refine(atom_l _ b s r0 (by exact hR1) hs).mono ?_;rintro e w2 ⟨he,hR2,hK2⟩;rw[<-HA.out]at he hR2;rw[AtR.val_eq]at he;subst he;clear c1;have hA2:=hA1.kept hK2 (by omega);have hS2:=hS1.kept hK2 (by omega);have hz2:w1.heap.size<=w2.heap.size:=hK2.size;obtain⟨a0,a1,a2,a3,a4,a5⟩:=hA2.c6;have fA:=hA2.frozen;obtain⟨s0,s1,s2,s3,s4⟩:=hS2.c5;have fS:=hS2.frozen;have HK2:Hid (Kept b w w2):=((((Kept.refl b w).allocs _).allocs _).trans hK1).trans hK2;clear hK1 hK2 hA1 hS1 hA2 hS2;have hz3:w.heap.size<w2.heap.size:=(by omega);have hz4:w.heap.size+1<w2.heap.size:=(by omega);have hz5:w.heap.size<w2.heap.size+1:=(by omega);have hz6:w.heap.size+1<w2.heap.size+1:=(by omega)));go_region;go_wp2;exact bodyPost_ret (v:=.tuple #[.agg #[.string A.nm,.int .i64 A.cn,.string (A.t 0),.string (A.t 1),.string (A.t 2),.bool false],.agg #[.int .i64 0,.int .i64 A.np',.int .i64 (A.p 0),.int .i64 (A.p 1),.int .i64 (A.p 2)],.bool A.ok]) (by simp[results,results96,go_sem,a0,a1,a2,a3,a4,a5,s0,s1,s2,s3,s4,hz3,hz4,hz5]) rfl ⟨rfl,((((hR2.set6 _ (by omega) _ _ _ _ _ _).set5 _ (by omega) _ _ _ _ _).alloc _).alloc _).drew,((((HK2.out.set6 _ (by omega) _ _ _ _ _ _).set5 _ (by omega) _ _ _ _ _).allocs _).allocs _).drewn⟩
theorem literal_yes(w:World)(b:Nat)(s:ByteArray)(l:B8)(hR:Rd w b s l)(hs:s.size<=281474976710656)(h1:tookB l 33=true):
 Calls prog 96 #[.pointer (some ⟨b,0,none⟩)] w fun e w'=>e=.returned (litVal s l)/\Rd w' b s (litAt s l).rest/\Kept b w w':=by
 have hsm:s.size<=maxLen:=by unfold maxLen;omega
 have hlt:=hR.lt;have hll:=hR.len;obtain⟨r0,H0⟩:∃r0,Hid (r0=tookL l 33):=⟨_,rfl⟩;obtain⟨A,HA⟩:∃A,Hid (A=atomR s r0):=⟨_,rfl⟩;have hp:1<=posOf s r0:=by have:=tookL_lt l 33 h1 (by omega);rw[<-H0.out]at this;unfold posOf;omega
 have hps:posOf s r0<=281474976710656:=by unfold posOf;omega
 have HE2:Hid ((litAt s l).rest=A.rest):=by show(litAt s l).rest=_;simp[litAt,<-H0.out,<-HA.out]
 rw[litVal_yes s l r0 A H0.out HA.out h1 hp,HE2.out];go_enter func96,ntmps96;go_wp2_with (first|(go_at_call 73;refine(take_l _ b s l 33 (by exact(hR.alloc _).alloc _) hsm (by omega)).mono ?_;rintro e w1 ⟨rfl,hR1,hK1⟩;rw[<-H0.out]at hR1;have c1:=hR1.c1;have hA1:=(new_one w zL 130 zS 82).kept hK1 (by omega);have hS1:=(new_two w _ zS 82).kept hK1 (by omega);have hz1:w.heap.size+1<w1.heap.size:=hS1.lt)|(go_at_call 72;refine(atom_l _ b s r0 (by exact hR1) hs).mono ?_;rintro e w2 ⟨he,hR2,hK2⟩;rw[<-HA.out]at he hR2;rw[AtR.val_eq]at he;subst he;clear c1;have hA2:=hA1.kept hK2 (by omega);have hS2:=hS1.kept hK2 (by omega);have hz2:w1.heap.size<=w2.heap.size:=hK2.size;obtain⟨a0,a1,a2,a3,a4,a5⟩:=hA2.c6;have fA:=hA2.frozen;obtain⟨s0,s1,s2,s3,s4⟩:=hS2.c5;have fS:=hS2.frozen;have HK2:Hid (Kept b w w2):=((((Kept.refl b w).allocs _).allocs _).trans hK1).trans hK2;clear hK1 hK2 hA1 hS1 hA2 hS2;have hz3:w.heap.size<w2.heap.size:=(by omega);have hz4:w.heap.size+1<w2.heap.size:=(by omega);have hz5:w.heap.size<w2.heap.size+1:=(by omega);have hz6:w.heap.size+1<w2.heap.size+1:=(by omega)));go_region;go_wp2;exact bodyPost_ret (v:=.tuple #[.agg #[.string A.nm,.int .i64 A.cn,.string (A.t 0),.string (A.t 1),.string (A.t 2),.bool true],.agg #[.int .i64 ((posOf s r0:Int)-1),.int .i64 A.np',.int .i64 (A.p 0),.int .i64 (A.p 1),.int .i64 (A.p 2)],.bool A.ok]) (by simp[results,results96,go_sem,a0,a1,a2,a3,a4,a5,s0,s1,s2,s3,s4,hz3,hz4,hz5]) rfl ⟨rfl,((((hR2.set6 _ (by omega) _ _ _ _ _ _).set5 _ (by omega) _ _ _ _ _).alloc _).alloc _).drew,((((HK2.out.set6 _ (by omega) _ _ _ _ _ _).set5 _ (by omega) _ _ _ _ _).allocs _).allocs _).drewn⟩
theorem literal_l(w:World)(b:Nat)(s:ByteArray)(l:B8)(hR:Rd w b s l)(hs:s.size<=281474976710656):
 Calls prog 96 #[.pointer (some ⟨b,0,none⟩)] w fun e w'=>e=.returned (litVal s l)/\Rd w' b s (litAt s l).rest/\Kept b w w':=by
 cases h1:tookB l 33
 ·exact literal_no w b s l hR hs h1
 ·exact literal_yes w b s l hR hs h1
structure LitD where
 name:B8
 ts:List B8
 neg:Bool
structure SpotD where
 mark:Nat
 np:Nat
 ps:List Nat
def LitD.cells(d:LitD):List Value:=litCells d.name d.ts d.neg
def SpotD.cells(d:SpotD):List Value:=spotCells d.mark d.np d.ps
def litD(s:ByteArray)(l:B8):LitD:=⟨(litAt s l).name,(litAt s l).ts,litNeg l⟩
def spotD(s:ByteArray)(l:B8):SpotD:=⟨litMark s l,(litAt s l).np,(litAt s l).ps⟩
structure BoR where
 ok:Bool
 lits:List LitD
 spots:List SpotD
 rest:B8
def litsR(s:ByteArray):Nat->List LitD->List SpotD->B8->BoR
 |0,ls,ps,l=>⟨true,ls,ps,l⟩
 |f+1,ls,ps,l=>
  if(litAt s l).ok=false then⟨false,ls,ps,(litAt s l).rest⟩
  else if f=0 then⟨true,ls++[litD s l],ps++[spotD s l],(litAt s l).rest⟩
  else if tookB (litAt s l).rest 44=false then⟨true,ls++[litD s l],ps++[spotD s l],tookL (litAt s l).rest 44⟩
  else litsR s f (ls++[litD s l]) (ps++[spotD s l]) (tookL (litAt s l).rest 44)
def bodyR(s:ByteArray)(ps:List SpotD)(l:B8):BoR:=if(hd l==45)=false then⟨false,[],ps,l⟩ else litsR s 4 [] ps l.tail
theorem infoLit:(prog.info? 130).map (fun i=>(i.zero,i.size,i.bytes))=some (some (.agg #[.string ⟨#[]⟩,.int .i64 0,.string ⟨#[]⟩,.string ⟨#[]⟩,.string ⟨#[]⟩,.bool false]),6,80):=by kernel_rfl
theorem infoSpot:(prog.info? 82).map (fun i=>(i.zero,i.size,i.bytes))=some (some (.agg #[.int .i64 0,.int .i64 0,.int .i64 0,.int .i64 0,.int .i64 0]),5,40):=by kernel_rfl
theorem new_cells(w:World)(cs:List Value)(t:TypeId):∀j u,cs[j]? =some u->(w.alloc (.cells cs.toArray t)).cell? ((⟨w.heap.size,0,none⟩:Addr).add j)=some u:=by intro j u h;rw[Addr.add_lit,Nat.zero_add];rw[(Blk.new w cs t).cell j];exact h
theorem own_form{w:World}{base:Nat}{e:TypeId}{size:Nat}{v:Value}{n:Nat}{xs:List Value}(h:w.ownsRow base e size v n xs):∃ao cap,v=.slice ao n cap:=by
 rcases h.2 with⟨rfl,rfl⟩|⟨g,cap,cur,rfl,_⟩
 ·exact⟨none,0,rfl⟩
 ·exact⟨_,_,rfl⟩
theorem Rd.next{w:World}{b:Nat}{s:ByteArray}{l:B8}(h:Rd w b s l)(h0:l≠[]):Rd (w.setCell ⟨b,1,none⟩ (.int .i64 ((posOf s l:Int)+1))) b s l.tail:=by
 obtain⟨hr,hle,hd⟩:=h.at;have hlt:posOf s l<s.size:=by apply Classical.byContradiction;intro hn;rw[drop_end s _ hn]at hd;exact h0 hd.symm
 refine⟨posOf s l+1,hlt,?_,hr.to (by omega)⟩;have e:=drop_cons s _ hlt;rw[hd]at e;exact(congrArg List.tail e).symm
def litM(s:ByteArray)(l:B8):Int:=litMark s l
theorem litVal_eq(s:ByteArray)(l:B8):litVal s l=.tuple #[.agg #[.string (litAt s l).nm,.int .i64 (litAt s l).cn,.string ((litAt s l).t 0),.string ((litAt s l).t 1),.string ((litAt s l).t 2),.bool (litNeg l)],.agg #[.int .i64 (litM s l),.int .i64 (litAt s l).np',.int .i64 ((litAt s l).p 0),.int .i64 ((litAt s l).p 1),.int .i64 ((litAt s l).p 2)],.bool (litAt s l).ok]:=rfl
theorem litD_cells(s:ByteArray)(l:B8):(litD s l).cells=[.string (litAt s l).nm,.int .i64 (litAt s l).cn,.string ((litAt s l).t 0),.string ((litAt s l).t 1),.string ((litAt s l).t 2),.bool (litNeg l)]:=rfl
theorem spotD_cells(s:ByteArray)(l:B8):(spotD s l).cells=[.int .i64 (litM s l),.int .i64 (litAt s l).np',.int .i64 ((litAt s l).p 0),.int .i64 ((litAt s l).p 1),.int .i64 ((litAt s l).p 2)]:=rfl
theorem Rd.grown{w w':World}{b:Nat}{s:ByteArray}{l:B8}{row:Option Nat}(h:Rd w b s l)(hg:w.grownBy w' row)(hne:row≠some b):Rd w' b s l:=by obtain⟨i,hi,hl,hr⟩:=h;exact⟨i,hi,hl,Blk.grown hr hg hne⟩
theorem own_lt_ne{w:World}{base:Nat}{e:TypeId}{size:Nat}{v:Value}{n:Nat}{xs:List Value}(h:w.ownsRow base e size v n xs){k:Nat}(hk:w.heap.size<=k):v.ownBlock≠some k:=by intro he;have:=(h.lt k he).2;omega
theorem own_base{w:World}{base:Nat}{e:TypeId}{size:Nat}{v:Value}{n:Nat}{xs:List Value}(h:w.ownsRow base e size v n xs):∀k,v.ownBlock=some k->base<=k:=fun k hk=>(h.lt k hk).1
def blen(w:World)(b:Nat):Nat:=match w.cell? ⟨b,5,none⟩ with|some (.slice _ n _)=>n|_=>0
theorem blen_eq{w:World}{cb:Nat}{x0 x1 x2 x3 x4 x6:Value}{ao:Option Addr}{n cap:Nat}{t:TypeId}(h:Blk w cb [x0,x1,x2,x3,x4,.slice ao n cap,x6] t):blen w cb=n:=by unfold blen;rw[h.cell 5];rfl
theorem body_l(w:World)(b:Nat)(s:ByteArray)(l:B8)(cb B:Nat)(n0 t0 t1 t2:ByteArray)(c:Int)(sv:Value)(ps0:List SpotD)(hR:Rd w b s l)(hs:s.size<=281474976710656)
 (hC:Blk w cb [.string n0,.int .i64 c,.string t0,.string t1,.string t2,.slice none 0 0,sv] 124)
 (hS:w.ownsRow B 82 5 sv ps0.length (ps0.flatMap SpotD.cells))(h1:ps0.length=1)(hb:b<B)(hB:B<=cb)(hBw:B<=w.heap.size):
 Calls prog 74 #[.pointer (some ⟨b,0,none⟩),.pointer (some ⟨cb,0,none⟩)] w fun e w'=>e=.returned (.bool (bodyR s ps0 l).ok)/\
  ∃bv sv',Blk w' cb [.string n0,.int .i64 c,.string t0,.string t1,.string t2,bv,sv'] 124/\
   w'.ownsRow B 130 6 bv (bodyR s ps0 l).lits.length ((bodyR s ps0 l).lits.flatMap LitD.cells)/\
   w'.ownsRow B 82 5 sv' (bodyR s ps0 l).spots.length ((bodyR s ps0 l).spots.flatMap SpotD.cells)/\
   Rd w' b s (bodyR s ps0 l).rest/\KeptTo B b w w':=by
 have hsm:s.size<=maxLen:=by unfold maxLen;omega
 cases h45:(hd l==45)
 ·have HE:Hid (bodyR s ps0 l=⟨false,[],ps0,l⟩):=by show bodyR s ps0 l=_;simp[bodyR,h45]
  have hne:(hd l != 45)=true:=by simp[bne,h45]
  go_enter func74,ntmps74;go_wp2_with (go_at_call 91;refine(peek_l _ b s l (by exact hR) hsm).mono ?_;rintro e w' ⟨rfl,n,rfl⟩)
  go_ret
  rw[HE.out];exact⟨rfl,.slice none 0 0,sv,hC,World.ownsRow_nil _ _ _ _,hS,hR,((Kept.refl b w).draws _).to hBw⟩
 ·have hne:(hd l != 45)=false:=by simp[bne,h45]
  have hl0:l≠[]:=by intro e;rw[e]at h45;simp[hd]at h45
  obtain⟨l',HL⟩:∃l',Hid (l'=l.tail):=⟨_,rfl⟩;have HE:Hid (bodyR s ps0 l=litsR s 4 [] ps0 l'):=by show bodyR s ps0 l=_;simp[bodyR,h45,HL.out]
  have hR1:=hR.next hl0;rw[<-HL.out]at hR1;have hcb:cb≠b:=by omega
  have c1:=hR.c1;have f1:=hR.f1;have hpl:posOf s l<=281474976710656:=by unfold posOf;omega
  go_enter func74,ntmps74;go_wp2_with (go_at_call 91;refine(peek_l _ b s l (by exact hR) hsm).mono ?_;rintro e w' ⟨rfl,n,rfl⟩);clear c1 f1
  go_loopw [] (fun wr=>∃(ls:List LitD) (ps:List SpotD) (r:B8) (bv sv:Value),ls.length<4/\ps.length=ls.length+1/\Hid (litsR s (4-ls.length) ls ps r=litsR s 4 [] ps0 l')/\Rd wr b s r/\
   Blk wr cb [.string n0,.int .i64 c,.string t0,.string t1,.string t2,bv,sv] 124/\wr.ownsRow B 130 6 bv ls.length (ls.flatMap LitD.cells)/\wr.ownsRow B 82 5 sv ps.length (ps.flatMap SpotD.cells)/\KeptTo B b w wr) (fun wr=>4-blen wr cb)
  case atStart=>
   refine⟨[],ps0,l',.slice none 0 0,sv,by decide,by simp[h1],rfl,hR1,?_,World.ownsRow_nil _ _ _ _,?_,?_⟩
   ·exact Blk.setOther (Blk.drewN hC _) ⟨b,1,none⟩ _ (by simpa using hcb)
   ·exact own_set hS ⟨b,1,none⟩ _ (own_ne hS hR.at.1 (by decide))
   ·exact(((Kept.refl b w).set 1 _).draws _).to hBw
  case round=>
   obtain⟨ls,ps,r,bv,sv1,hl4,hps,HX,hRr,hCr,hLr,hSr,hKr⟩:=hrel;have HPS:Hid (ps.length=ls.length+1):=hps;have hp4:ps.length<=4:=by omega
   clear hps;obtain⟨ao,cap,rfl⟩:=own_form hLr;obtain⟨po,pcap,rfl⟩:=own_form hSr;have HBL:Hid (blen wr cb=ls.length):=blen_eq hCr;obtain⟨i1,hi1,hy0,hy1,hy2⟩:=info_parts infoLit;obtain⟨i2,hi2,hz0,hz1,hz2⟩:=info_parts infoSpot;cases hok:(litAt s r).ok
   ·have HF:Hid (bodyR s ps0 l=⟨false,ls,ps,(litAt s r).rest⟩):=by show bodyR s ps0 l=_;rw[HE.out,<-HX.out,show 4-ls.length=(3-ls.length)+1 by omega];simp[litsR,hok]
    go_wp2_with (go_at_call 96;refine(literal_l _ b s r (by exact hRr) hs).mono ?_;rintro e w1 ⟨he,hR1,hK1⟩;rw[litVal_eq,hok]at he;subst he)
    go_ret
    rw[HF.out];have hKK1:=hKr.kept hK1 (by have:=hKr.size;omega);exact⟨rfl,_,_,((hCr.kept hK1 hcb).alloc _).alloc _,((own_kept hLr hK1 (own_ne hLr hRr.at.1 (by decide))).alloc _).alloc _,((own_kept hSr hK1 (own_ne hSr hRr.at.1 (by decide))).alloc _).alloc _,(hR1.alloc _).alloc _,(hKK1.alloc _ (by have:=hKK1.size;omega)).alloc _ (by have:=hKK1.size;simp;omega)⟩
   ·obtain⟨A,HA⟩:∃A,Hid (A=litAt s r):=⟨_,rfl⟩;go_wp2_with (go_at_call 96;refine(literal_l _ b s r (by exact hRr) hs).mono ?_;rintro e w1 ⟨he,hR1,hK1⟩;rw[litVal_eq,hok,<-HA.out]at he;subst he;rw[<-HA.out]at hR1;have hC1:=hCr.kept hK1 hcb;have hL1:=own_kept hLr hK1 (own_ne hLr hRr.at.1 (by decide));have hS1:=own_kept hSr hK1 (own_ne hSr hRr.at.1 (by decide));have hKK1:=hKr.kept hK1 (by have:=hKr.size;omega);have hcw:cb<w1.heap.size:=hC1.lt;have hbw:b<w1.heap.size:=hR1.lt;obtain⟨c0,c1,c2,c3,c4,c5,c6⟩:=hC1.c7;have fC:=hC1.frozen);obtain⟨cs,HC⟩:∃cs,Hid (cs=[Value.string A.nm,.int .i64 A.cn,.string (A.t 0),.string (A.t 1),.string (A.t 2),.bool (litNeg r)]):=⟨_,rfl⟩
    have hone:∀u∈cs,u.oneCell'=true:=by
     rw[HC.out];intro u hu;simp at hu;rcases hu with rfl|rfl|rfl|rfl|rfl|rfl<;>rfl
    have hlen:cs.length=1*6:=by rw[HC.out];rfl
    have hown:∀o1 o2 o3,((((w1.alloc o1).alloc o2).alloc o3).drew).ownsRow B 130 6 (.slice ao ls.length cap) ls.length (ls.flatMap LitD.cells):=fun o1 o2 o3=>((hL1.alloc o1).alloc o2).alloc o3
    have hnews:∀o1 o2,∀j u,cs[j]? =some u->((((w1.alloc o1).alloc o2).alloc (.cells #[Value.string A.nm,.int .i64 A.cn,.string (A.t 0),.string (A.t 1),.string (A.t 2),.bool (litNeg r)] 130)).drew).cell? ((⟨w1.heap.size+1+1,0,none⟩:Addr).add j)=some u:=by
     intro o1 o2 j u h;rw[HC.out]at h;have h':=new_cells ((w1.alloc o1).alloc o2) _ 130 j u h;have e:((w1.alloc o1).alloc o2).heap.size=w1.heap.size+1+1:=by simp
     rw[e]at h';exact h'
    have hcw1:cb<w1.heap.size+1:=by omega
    have hcw2:cb<w1.heap.size+1+1:=by omega
    have hlm:ls.length+1<=maxLen:=by unfold maxLen;omega
    have hlb:(ls.length+1)*80<=140737488355328:=by omega
    have hBB:∀o1 o2 o3,B<=((((w1.alloc o1).alloc o2).alloc o3).drew).heap.size:=by intro o1 o2 o3;have:=hKK1.size;simp;omega
    have HLX:Hid (ls.flatMap LitD.cells++cs=(ls++[litD s r]).flatMap LitD.cells):=by show ls.flatMap LitD.cells++cs=(ls++[litD s r]).flatMap LitD.cells;rw[List.flatMap_append,HC.out];simp[litD_cells,<-HA.out]
    have hne1:=own_ne hL1 hC1 (by decide);have hne2:=own_ne hL1 hR1.at.1 (by decide);have hne3:=own_lt_ne hL1 (k:=w1.heap.size+1) (by omega);have hne4:=own_ne2 hS1 hL1 (by decide);have hbs:=own_base hL1;have hB1:B<=w1.heap.size:=by have:=hKK1.size;omega
    go_cut [] from 18 to 59 (fun wx=>∃g cap',Blk wx cb [.string n0,.int .i64 c,.string t0,.string t1,.string t2,.slice (some ⟨g,0,none⟩) (ls.length+1) cap',.slice po ps.length pcap] 124/\wx.ownsRow B 130 6 (.slice (some ⟨g,0,none⟩) (ls.length+1) cap') (ls.length+1) (ls.flatMap LitD.cells++cs)/\
     wx.ownsRow B 82 5 (.slice po ps.length pcap) ps.length (ps.flatMap SpotD.cells)/\Blk wx (w1.heap.size+1) [.int .i64 (litM s r),.int .i64 A.np',.int .i64 (A.p 0),.int .i64 (A.p 1),.int .i64 (A.p 2)] 82/\Rd wx b s A.rest/\KeptTo B b w wx)
    case first=>
     go_region_law (refine step_append_own rfl (.tmp 31) (.tmp 33) 58 rfl B 130 i1 _ 6 80 underlying58 hi1 hy0 hy1 hy2 rfl (by decide) (.slice ao ls.length cap) ls.length (ls.flatMap LitD.cells) (by simp[Act.eval]) (hown _ _ _) ⟨w1.heap.size+1+1,0,none⟩ 1 1 cs (by simp[Act.eval]) (by decide) hlen (hnews _ _) hone hlm hlb (hBB _ _ _) ?_;intro g cap' w2 hL2 hg2;have hC2:=(((hC1.alloc _).alloc _).alloc _).drew.grown hg2 hne1;obtain⟨d0,d1,d2,d3,d4,d5,d6⟩:=hC2.c7;have fC2:=hC2.frozen;have hR2:=(((hR1.alloc _).alloc _).alloc _).drew.grown hg2 hne2;have hP2:=((new_two w1 _ [.int .i64 (litM s r),.int .i64 A.np',.int .i64 (A.p 0),.int .i64 (A.p 1),.int .i64 (A.p 2)] 82).alloc _).drew.grown hg2 hne3;have hS2:=(((hS1.alloc _).alloc _).alloc _).drew.kept hg2 hne4;have hKK2:=((((hKK1.alloc _ hB1).alloc _ (by simp;omega)).alloc _ (by simp;omega)).drew).grown hg2 (by simp;omega) hbs)
     all_goals go_wp2_with fail
     all_goals go_meet
     all_goals
      refine⟨g,cap',hC2.setCell 5 _,own_set hL2 ⟨cb,5,none⟩ _ (own_ne hL2 hC2 (by decide)),own_set hS2 ⟨cb,5,none⟩ _ (own_ne hS2 hC2 (by decide)),hP2.setOther ⟨cb,5,none⟩ _ (by simp only[ne_eq];omega),hR2.setOther ⟨cb,5,none⟩ _ (by simp only[ne_eq];omega),hKK2.set ⟨cb,5,none⟩ _ (.inl hB)⟩
    case rest=>
     clear c0 c1 c2 c3 c4 c5 c6 fC hown hnews hBB hC1 hL1 hS1 hKK1 hR1 hne1 hne2 hne3 hne4 hbs hone hlen hCr hLr hSr hKr hRr hK1;obtain⟨g,cap',hC2,hL2,hS2,hP2,hR2,hKK2⟩:=hcut;obtain⟨c0,c1,c2,c3,c4,c5,c6⟩:=hC2.c7;have fC:=hC2.frozen;obtain⟨p0,p1,p2,p3,p4⟩:=hP2.c5;have hcw:cb<wc.heap.size:=hC2.lt;have hpw:w1.heap.size+1<wc.heap.size:=hP2.lt;obtain⟨qs,HQ⟩:∃qs,Hid (qs=[Value.int .i64 (litM s r),.int .i64 A.np',.int .i64 (A.p 0),.int .i64 (A.p 1),.int .i64 (A.p 2)]):=⟨_,rfl⟩
     have hone:∀u∈qs,u.oneCell'=true:=by
      rw[HQ.out];intro u hu;simp at hu;rcases hu with rfl|rfl|rfl|rfl|rfl<;>rfl
     have hlen:qs.length=1*5:=by rw[HQ.out];rfl
     have hown:∀o3,((wc.alloc o3).drew).ownsRow B 82 5 (.slice po ps.length pcap) ps.length (ps.flatMap SpotD.cells):=fun o3=>hS2.alloc o3;have hnews:∀j u,qs[j]? =some u->((wc.alloc (.cells #[Value.int .i64 (litM s r),.int .i64 A.np',.int .i64 (A.p 0),.int .i64 (A.p 1),.int .i64 (A.p 2)] 82)).drew).cell? ((⟨wc.heap.size,0,none⟩:Addr).add j)=some u:=by intro j u h;rw[HQ.out]at h;exact new_cells wc _ 82 j u h
     have hpm:ps.length+1<=maxLen:=by unfold maxLen;omega
     have hpb:(ps.length+1)*40<=140737488355328:=by omega
     have hB2:B<=wc.heap.size:=by have:=hKK2.size;omega
     have hBB:∀o3,B<=((wc.alloc o3).drew).heap.size:=by intro o3;simp;omega
     have HSX:Hid (ps.flatMap SpotD.cells++qs=(ps++[spotD s r]).flatMap SpotD.cells):=by show ps.flatMap SpotD.cells++qs=(ps++[spotD s r]).flatMap SpotD.cells;rw[List.flatMap_append,HQ.out];simp[spotD_cells,<-HA.out]
     have hne1:=own_ne hS2 hC2 (by decide);have hne2:=own_ne hS2 hR2.at.1 (by decide);have hne4:=own_ne2 hL2 hS2 (by decide);have hbs:=own_base hS2;go_wp2_with fail
     go_cut [] from 18 to 59 (fun wx=>∃g2 cap2,Blk wx cb [.string n0,.int .i64 c,.string t0,.string t1,.string t2,.slice (some ⟨g,0,none⟩) (ls.length+1) cap',.slice (some ⟨g2,0,none⟩) (ps.length+1) cap2] 124/\wx.ownsRow B 130 6 (.slice (some ⟨g,0,none⟩) (ls.length+1) cap') (ls.length+1) (ls.flatMap LitD.cells++cs)/\
      wx.ownsRow B 82 5 (.slice (some ⟨g2,0,none⟩) (ps.length+1) cap2) (ps.length+1) (ps.flatMap SpotD.cells++qs)/\Rd wx b s A.rest/\KeptTo B b w wx)
     case first=>
      go_region_law (refine step_append_own rfl (.tmp 42) (.tmp 44) 122 rfl B 82 i2 _ 5 40 underlying122 hi2 hz0 hz1 hz2 rfl (by decide) (.slice po ps.length pcap) ps.length (ps.flatMap SpotD.cells) (by simp[Act.eval]) (hown _) ⟨wc.heap.size,0,none⟩ 1 1 qs (by simp[Act.eval]) (by decide) hlen hnews hone hpm hpb (hBB _) ?_;intro g2 cap2 w3 hS3 hg3;have hC3:=(hC2.alloc _).drew.grown hg3 hne1;obtain⟨d0,d1,d2,d3,d4,d5,d6⟩:=hC3.c7;have fC3:=hC3.frozen;have hR3:=(hR2.alloc _).drew.grown hg3 hne2;have hL3:=(hL2.alloc _).drew.kept hg3 hne4;have hKK3:=((hKK2.alloc _ hB2).drew).grown hg3 (by simp;omega) hbs)
      all_goals go_wp2_with fail
      all_goals go_meet
      all_goals
       exact⟨g2,cap2,hC3.setCell 6 _,own_set hL3 ⟨cb,6,none⟩ _ (own_ne hL3 hC3 (by decide)),own_set hS3 ⟨cb,6,none⟩ _ (own_ne hS3 hC3 (by decide)),hR3.setOther ⟨cb,6,none⟩ _ (by simp only[ne_eq];omega),hKK3.set ⟨cb,6,none⟩ _ (.inl hB)⟩
     case rest=>
      clear c0 c1 c2 c3 c4 c5 c6 fC p0 p1 p2 p3 p4 hown hnews hBB hC2 hL2 hS2 hP2 hR2 hKK2 hne1 hne2 hne4 hbs hone hlen;obtain⟨g2,cap2,hC2,hL2,hS2,hR2,hKK2⟩:=hcut;rw[HLX.out]at hL2;rw[HSX.out]at hS2;obtain⟨c0,c1,c2,c3,c4,c5,c6⟩:=hC2.c7;by_cases h3:ls.length=3
      ·have hq:(((ls.length:Int)+1)==4)=true:=by rw[beq_iff_eq];omega
       have HF:Hid (bodyR s ps0 l=⟨true,ls++[litD s r],ps++[spotD s r],(litAt s r).rest⟩):=by show bodyR s ps0 l=_;rw[HE.out,<-HX.out,h3];simp[litsR,hok]
       clear h3;go_wp2
       go_ret
       rw[HF.out];exact⟨rfl,_,_,hC2,by simpa using hL2,by simpa using hS2,by rw[<-HA.out];exact hR2,hKK2⟩
      ·have hq:(((ls.length:Int)+1)==4)=false:=by rw[beq_eq_false_iff_ne];omega
       have HG:Hid (4-ls.length=(3-ls.length)+1/\3-ls.length≠0):=⟨by omega,by omega⟩;have hl3:ls.length+1<4:=by omega
       clear h3;cases ht:tookB A.rest 44
       ·have HF:Hid (bodyR s ps0 l=⟨true,ls++[litD s r],ps++[spotD s r],tookL A.rest 44⟩):=by show bodyR s ps0 l=_;rw[HA.out]at ht;rw[HE.out,<-HX.out,HG.out.1];simp[litsR,hok,HG.out.2,ht,HA.out]
        go_wp2_with (go_at_call 73;refine(take_l _ b s A.rest 44 (by exact hR2) hsm (by omega)).mono ?_;rintro e w3 ⟨rfl,hR3,hK3⟩)
        go_ret
        rw[HF.out];exact⟨rfl,_,_,hC2.kept hK3 hcb,by simpa using own_kept hL2 hK3 (own_ne hL2 hR2.at.1 (by decide)),by simpa using own_kept hS2 hK3 (own_ne hS2 hR2.at.1 (by decide)),hR3,hKK2.kept hK3 (by have:=hKK2.size;omega)⟩
       ·have HF:Hid (litsR s (4-(ls++[litD s r]).length) (ls++[litD s r]) (ps++[spotD s r]) (tookL A.rest 44)=litsR s 4 [] ps0 l'):=by show litsR s (4-(ls++[litD s r]).length) (ls++[litD s r]) (ps++[spotD s r]) (tookL A.rest 44)=_;rw[HA.out]at ht;rw[<-HX.out,HG.out.1,List.length_append,List.length_singleton,show 4-(ls.length+1)=3-ls.length by omega];simp[litsR,hok,HG.out.2,ht,HA.out]
        go_wp2_with (go_at_call 73;refine(take_l _ b s A.rest 44 (by exact hR2) hsm (by omega)).mono ?_;rintro e w3 ⟨rfl,hR3,hK3⟩);have hC3:=hC2.kept hK3 hcb;refine⟨⟨ls++[litD s r],ps++[spotD s r],tookL A.rest 44,_,_,by simpa using hl3,by simp[HPS.out],HF,hR3,hC3,by simpa using own_kept hL2 hK3 (own_ne hL2 hR2.at.1 (by decide)),by simpa using own_kept hS2 hK3 (own_ne hS2 hR2.at.1 (by decide)),hKK2.kept hK3 (by have:=hKK2.size;omega)⟩,?_⟩;rw[HBL.out,blen_eq hC3];omega
structure ClR where
 ok:Bool
 name:B8
 ts:List B8
 lits:List LitD
 spots:List SpotD
 rest:B8
def headSpot(s:ByteArray)(l:B8):SpotD:=⟨0,(atomR s l).np,(atomR s l).ps⟩
def clauseR(s:ByteArray)(l:B8):ClR:=
 if(atomR s l).ok=false then⟨false,[],[],[],[],(atomR s l).rest⟩
 else if tookB (atomR s l).rest 58=false then⟨tookB (tookL (atomR s l).rest 58) 46,(atomR s l).name,(atomR s l).ts,[],[headSpot s l],tookL (tookL (atomR s l).rest 58) 46⟩
 else if(bodyR s [headSpot s l] (tookL (atomR s l).rest 58)).ok=false then⟨false,[],[],[],[],(bodyR s [headSpot s l] (tookL (atomR s l).rest 58)).rest⟩
 else⟨tookB (bodyR s [headSpot s l] (tookL (atomR s l).rest 58)).rest 46,(atomR s l).name,(atomR s l).ts,(bodyR s [headSpot s l] (tookL (atomR s l).rest 58)).lits,(bodyR s [headSpot s l] (tookL (atomR s l).rest 58)).spots,tookL (bodyR s [headSpot s l] (tookL (atomR s l).rest 58)).rest 46⟩
def ClauseIs(w w':World)(r:ClR)(v:Value):Prop:=
 ∃(n0 t0 t1 t2:ByteArray) (c:Int) (ao po:Option Addr) (n m cap pcap:Nat),v=.tuple #[.agg #[.string n0,.int .i64 c,.string t0,.string t1,.string t2,.slice ao n cap,.slice po m pcap],.bool r.ok]/\
  (r.ok=true->[Value.string n0,.int .i64 c,.string t0,.string t1,.string t2]=atomCells r.name r.ts/\n=r.lits.length/\m=r.spots.length/\
    w'.ownsRow w.heap.size 130 6 (.slice ao n cap) n (r.lits.flatMap LitD.cells)/\w'.ownsRow w.heap.size 82 5 (.slice po m pcap) m (r.spots.flatMap SpotD.cells))
theorem own_mono{w:World}{base base':Nat}{e:TypeId}{size:Nat}{v:Value}{n:Nat}{xs:List Value}(h:w.ownsRow base e size v n xs)(hb:base'<=base):w.ownsRow base' e size v n xs:=by
 refine⟨h.1,?_⟩;rcases h.2 with h2|⟨g,cap,cur,hv,hg,r⟩
 ·exact .inl h2
 ·exact .inr ⟨g,cap,cur,hv,by omega,r⟩
theorem Rd.set7{w:World}{b:Nat}{s:ByteArray}{l:B8}(h:Rd w b s l)(A:Nat)(hA:b≠A)(x0 x1 x2 x3 x4 x5 x6:Value):
 Rd (((((((w.setCell ⟨A,0,none⟩ x0).setCell ⟨A,1,none⟩ x1).setCell ⟨A,2,none⟩ x2).setCell ⟨A,3,none⟩ x3).setCell ⟨A,4,none⟩ x4).setCell ⟨A,5,none⟩ x5).setCell ⟨A,6,none⟩ x6) b s l:=
 (h.set6 A hA x0 x1 x2 x3 x4 x5).setOther ⟨A,6,none⟩ x6 hA
theorem Kept.set7{b:Nat}{u w:World}(h:Kept b u w)(A:Nat)(hA:u.heap.size<=A)(x0 x1 x2 x3 x4 x5 x6:Value):
 Kept b u (((((((w.setCell ⟨A,0,none⟩ x0).setCell ⟨A,1,none⟩ x1).setCell ⟨A,2,none⟩ x2).setCell ⟨A,3,none⟩ x3).setCell ⟨A,4,none⟩ x4).setCell ⟨A,5,none⟩ x5).setCell ⟨A,6,none⟩ x6):=
 (h.set6 A hA x0 x1 x2 x3 x4 x5).setNew (p:=⟨A,6,none⟩) hA x6
theorem own_set7{w:World}{base:Nat}{e:TypeId}{size:Nat}{v:Value}{n:Nat}{xs:List Value}(h:w.ownsRow base e size v n xs)(A:Nat)(hne:v.ownBlock≠some A)(x0 x1 x2 x3 x4 x5 x6:Value):
 (((((((w.setCell ⟨A,0,none⟩ x0).setCell ⟨A,1,none⟩ x1).setCell ⟨A,2,none⟩ x2).setCell ⟨A,3,none⟩ x3).setCell ⟨A,4,none⟩ x4).setCell ⟨A,5,none⟩ x5).setCell ⟨A,6,none⟩ x6).ownsRow base e size v n xs:=
 own_set (own_set (own_set (own_set (own_set (own_set (own_set h ⟨A,0,none⟩ x0 hne) ⟨A,1,none⟩ x1 hne) ⟨A,2,none⟩ x2 hne) ⟨A,3,none⟩ x3 hne) ⟨A,4,none⟩ x4 hne) ⟨A,5,none⟩ x5 hne) ⟨A,6,none⟩ x6 hne
theorem Blk.keptTo{w w':World}{k B c:Nat}{cs:List Value}{t:TypeId}(h:Blk w k cs t)(hk:KeptTo B c w w')(hB:k<B)(hn:k≠c):Blk w' k cs t:=by unfold Blk at*;rw[hk.block k hB hn,h]
theorem KeptTo.kept_of{B b:Nat}{u v w:World}(h:Kept b u v)(k:KeptTo B b v w)(hB:u.heap.size<=B):Kept b u w:=
 ⟨k.os.trans h.os,k.tape.trans h.tape,k.output.trans h.output,Nat.le_trans h.size k.size,fun i hi hn=>(k.block i (by omega) hn).trans (h.block i hi hn)⟩
def zP:List Value:=[.string ⟨#[]⟩,.int .i64 0,.string ⟨#[]⟩,.string ⟨#[]⟩,.string ⟨#[]⟩,.slice none 0 0,.slice none 0 0]
theorem clause_no(w:World)(b:Nat)(s:ByteArray)(l:B8)(hR:Rd w b s l)(hs:s.size<=281474976710656)(hok:(atomR s l).ok=false):
 Calls prog 47 #[.pointer (some ⟨b,0,none⟩)] w fun e w'=>∃v,e=.returned v/\ClauseIs w w' (clauseR s l) v/\Rd w' b s (clauseR s l).rest/\Kept b w w':=by
 have hlt:=hR.lt;have HE:Hid (clauseR s l=⟨false,[],[],[],[],(atomR s l).rest⟩):=by show clauseR s l=_;simp[clauseR,hok]
 obtain⟨A,HA⟩:∃A,Hid (A=atomR s l):=⟨_,rfl⟩;rw[<-HA.out]at hok;go_enter func47,ntmps47;go_wp2_with (go_at_call 72;refine(atom_l _ b s l (by exact hR.alloc _) hs).mono ?_;rintro e w1 ⟨he,hR1,hK1⟩;rw[<-HA.out]at he hR1;rw[AtR.val_eq,hok]at he;subst he;have hP1:=(Blk.new w zP 124).kept hK1 (by omega);obtain⟨a0,a1,a2,a3,a4,a5,a6⟩:=hP1.c7;have fP:=hP1.frozen;have hz1:w.heap.size<w1.heap.size:=hP1.lt;have hz2:w.heap.size<w1.heap.size+1:=(by omega));rw[HE.out,<-HA.out]
 have hv:ClauseIs w w1 ⟨false,[],[],[],[],A.rest⟩ (.tuple #[.agg #[.string ⟨#[]⟩,.int .i64 0,.string ⟨#[]⟩,.string ⟨#[]⟩,.string ⟨#[]⟩,.slice none 0 0,.slice none 0 0],.bool false]):=
  ⟨_,_,_,_,_,_,_,_,_,_,_,rfl,by simp⟩
 exact bodyPost_ret (v:=.tuple #[.agg #[.string ⟨#[]⟩,.int .i64 0,.string ⟨#[]⟩,.string ⟨#[]⟩,.string ⟨#[]⟩,.slice none 0 0,.slice none 0 0],.bool false]) (by simp[results,results47,go_sem,a0,a1,a2,a3,a4,a5,a6,hz1,hz2]) rfl ⟨_,rfl,⟨_,_,_,_,_,_,_,_,_,_,_,rfl,by simp⟩,((hR1.set7 _ (by omega) _ _ _ _ _ _ _).alloc _).alloc _,((((((Kept.refl b w).allocs _).trans hK1).set7 _ (by omega) _ _ _ _ _ _ _).allocs _).allocs _)⟩
theorem new_four(w:World)(o1 o2 o3:Obj)(cs:List Value)(t:TypeId):Blk ((((w.alloc o1).alloc o2).alloc o3).alloc (.cells cs.toArray t)) (w.heap.size+1+1+1) cs t:=by
 have h:=Blk.new (((w.alloc o1).alloc o2).alloc o3) cs t;have e:(((w.alloc o1).alloc o2).alloc o3).heap.size=w.heap.size+1+1+1:=by simp
 rwa [e]at h
theorem new_three(w:World)(o1 o2:Obj)(cs:List Value)(t:TypeId)(o4:Obj):Blk ((((w.alloc o1).alloc o2).alloc (.cells cs.toArray t)).alloc o4) (w.heap.size+1+1) cs t:=by
 have h:=Blk.new ((w.alloc o1).alloc o2) cs t;have e:((w.alloc o1).alloc o2).heap.size=w.heap.size+1+1:=by simp
 rw[e]at h;exact h.alloc o4
theorem own_one{w:World}{g:Nat}{cs:List Value}{e:TypeId}{size base:Nat}(h:Blk w g cs e)(hl:cs.length=size)(hb:base<=g):w.ownsRow base e size (.slice (some ⟨g,0,none⟩) 1 1) 1 cs:=by refine⟨by omega,.inr ⟨g,1,cs.toArray,rfl,hb,h,Nat.le_refl _,by unfold maxLen;omega,by simp;omega,?_⟩⟩;simp only[Nat.one_mul];exact List.take_of_length_le (by omega)
theorem clause_fact(w:World)(b:Nat)(s:ByteArray)(l:B8)(hR:Rd w b s l)(hs:s.size<=281474976710656)(hok:(atomR s l).ok=true)(h58:tookB (atomR s l).rest 58=false):
 Calls prog 47 #[.pointer (some ⟨b,0,none⟩)] w fun e w'=>∃v,e=.returned v/\ClauseIs w w' (clauseR s l) v/\Rd w' b s (clauseR s l).rest/\Kept b w w':=by
 have hsm:s.size<=maxLen:=by unfold maxLen;omega
 have hlt:=hR.lt;have HE:Hid (clauseR s l=⟨tookB (tookL (atomR s l).rest 58) 46,(atomR s l).name,(atomR s l).ts,[],[headSpot s l],tookL (tookL (atomR s l).rest 58) 46⟩):=by show clauseR s l=_;simp[clauseR,hok,h58]
 obtain⟨A,HA⟩:∃A,Hid (A=atomR s l):=⟨_,rfl⟩;have HHS:Hid ((headSpot s l).cells=[.int .i64 0,.int .i64 A.np',.int .i64 (A.p 0),.int .i64 (A.p 1),.int .i64 (A.p 2)]):=by rw[HA.out];rfl
 rw[<-HA.out]at hok h58;obtain⟨q,HQ⟩:∃q,Hid (q=tookL A.rest 58):=⟨_,rfl⟩;go_enter func47,ntmps47;go_wp2_with (first|(go_at_call 72;refine(atom_l _ b s l (by exact hR.alloc _) hs).mono ?_;rintro e w1 ⟨he,hR1,hK1⟩;rw[<-HA.out]at he hR1;rw[AtR.val_eq,hok]at he;subst he;have hP1:=(Blk.new w zP 124).kept hK1 (by omega);have hz1:w.heap.size<w1.heap.size:=hP1.lt)|(go_at_call 73;refine(take_l _ b s A.rest 58 (by exact(((hR1.alloc _).alloc _).alloc _).alloc _) hsm (by omega)).mono ?_;rintro e w2 ⟨rfl,hR2,hK2⟩;rw[<-HQ.out]at hR2;have hP2:=((((hP1.alloc _).alloc _).alloc _).alloc _).kept hK2 (by omega);have hC2:=(new_four w1 _ _ _ [.string A.nm,.int .i64 A.cn,.string (A.t 0),.string (A.t 1),.string (A.t 2),.slice none 0 0,.slice (some ⟨w1.heap.size+1+1,0,none⟩) 1 1] 124).kept hK2 (by omega);have hW2:=(new_three w1 _ _ [.int .i64 0,.int .i64 A.np',.int .i64 (A.p 0),.int .i64 (A.p 1),.int .i64 (A.p 2)] 82 _).kept hK2 (by omega);have hz2:w1.heap.size+1+1+1<w2.heap.size:=hC2.lt;obtain⟨c0,c1,c2,c3,c4,c5,c6⟩:=hC2.c7;have HK2:Hid (Kept b w w2):=(((((((Kept.refl b w).allocs _).trans hK1).allocs _).allocs _).allocs _).allocs _).trans hK2;clear hK1 hK2 hP1))
 go_region_with (go_at_call 73;refine(take_l _ b s q 46 (by exact hR2.drew) hsm (by omega)).mono ?_;rintro e w3 ⟨rfl,hR3,hK3⟩;have hP3:=hP2.drew.kept hK3 (by omega);have hC3:=hC2.drew.kept hK3 (by omega);have hW3:=hW2.drew.kept hK3 (by omega);obtain⟨d0,d1,d2,d3,d4,d5,d6⟩:=hC3.c7;obtain⟨a0,a1,a2,a3,a4,a5,a6⟩:=hP3.c7;have fP:=hP3.frozen;have HK3:Hid (Kept b w w3):=HK2.out.drewn.trans hK3)
 all_goals go_wp2
 all_goals rw[HE.out,<-HA.out,<-HQ.out]
 all_goals exact bodyPost_ret (v:=.tuple #[.agg #[.string A.nm,.int .i64 A.cn,.string (A.t 0),.string (A.t 1),.string (A.t 2),.slice none 0 0,.slice (some ⟨w1.heap.size+1+1,0,none⟩) 1 1],.bool (tookB q 46)]) (by simp[results,results47,go_sem,a0,a1,a2,a3,a4,a5,a6]) rfl ⟨_,rfl,⟨A.nm,A.t 0,A.t 1,A.t 2,A.cn,none,some ⟨w1.heap.size+1+1,0,none⟩,0,1,0,1,rfl,fun _=>⟨rfl,rfl,rfl,World.ownsRow_nil _ _ _ _,by rw[List.flatMap_singleton,HHS.out];exact own_set7 (own_one hW3 rfl (by omega)) _ (by simp only[Value.ownBlock,ne_eq,Option.some.injEq];omega) _ _ _ _ _ _ _⟩⟩,hR3.set7 _ (by omega) _ _ _ _ _ _ _,HK3.out.set7 _ (by omega) _ _ _ _ _ _ _⟩
theorem clause_bad(w:World)(b:Nat)(s:ByteArray)(l:B8)(hR:Rd w b s l)(hs:s.size<=281474976710656)(hok:(atomR s l).ok=true)(h58:tookB (atomR s l).rest 58=true)
 (hbo:(bodyR s [headSpot s l] (tookL (atomR s l).rest 58)).ok=false):
 Calls prog 47 #[.pointer (some ⟨b,0,none⟩)] w fun e w'=>∃v,e=.returned v/\ClauseIs w w' (clauseR s l) v/\Rd w' b s (clauseR s l).rest/\Kept b w w':=by
 have hsm:s.size<=maxLen:=by unfold maxLen;omega
 have hlt:=hR.lt;have HE:Hid (clauseR s l=⟨false,[],[],[],[],(bodyR s [headSpot s l] (tookL (atomR s l).rest 58)).rest⟩):=by show clauseR s l=_;simp[clauseR,hok,h58,hbo]
 obtain⟨A,HA⟩:∃A,Hid (A=atomR s l):=⟨_,rfl⟩;have HHS:Hid ((headSpot s l).cells=[.int .i64 0,.int .i64 A.np',.int .i64 (A.p 0),.int .i64 (A.p 1),.int .i64 (A.p 2)]):=by rw[HA.out];rfl
 rw[<-HA.out]at hok h58 hbo;obtain⟨q,HQ⟩:∃q,Hid (q=tookL A.rest 58):=⟨_,rfl⟩;rw[<-HQ.out]at hbo;obtain⟨D,HD⟩:∃D,Hid (D=bodyR s [headSpot s l] q):=⟨_,rfl⟩;rw[<-HD.out]at hbo;go_enter func47,ntmps47;go_wp2_with (first|(go_at_call 72;refine(atom_l _ b s l (by exact hR.alloc _) hs).mono ?_;rintro e w1 ⟨he,hR1,hK1⟩;rw[<-HA.out]at he hR1;rw[AtR.val_eq,hok]at he;subst he;have hP1:=(Blk.new w zP 124).kept hK1 (by omega);have hz1:w.heap.size<w1.heap.size:=hP1.lt)|(go_at_call 73;refine(take_l _ b s A.rest 58 (by exact(((hR1.alloc _).alloc _).alloc _).alloc _) hsm (by omega)).mono ?_;rintro e w2 ⟨rfl,hR2,hK2⟩;rw[<-HQ.out]at hR2;have hP2:=((((hP1.alloc _).alloc _).alloc _).alloc _).kept hK2 (by omega);have hC2:=(new_four w1 _ _ _ [.string A.nm,.int .i64 A.cn,.string (A.t 0),.string (A.t 1),.string (A.t 2),.slice none 0 0,.slice (some ⟨w1.heap.size+1+1,0,none⟩) 1 1] 124).kept hK2 (by omega);have hW2:=(new_three w1 _ _ [.int .i64 0,.int .i64 A.np',.int .i64 (A.p 0),.int .i64 (A.p 1),.int .i64 (A.p 2)] 82 _).kept hK2 (by omega);have hz2:w1.heap.size+1+1+1<w2.heap.size:=hC2.lt;have HK2:Hid (Kept b w w2):=(((((((Kept.refl b w).allocs _).trans hK1).allocs _).allocs _).allocs _).allocs _).trans hK2;clear hK1 hK2 hP1)|(go_at_call 74;refine(body_l _ b s q (w1.heap.size+1+1+1) (w1.heap.size+1+1) _ _ _ _ _ (.slice (some ⟨w1.heap.size+1+1,0,none⟩) 1 1) [headSpot s l] (by exact hR2) hs hC2 (by rw[List.flatMap_singleton,HHS.out];exact own_one hW2 rfl (Nat.le_refl _)) rfl (by omega) (by omega) (by omega)).mono ?_;rintro e w3 ⟨he,bv,sv,hC3,hL3,hS3,hR3,hKT3⟩;rw[<-HD.out]at he hR3 hL3 hS3;rw[hbo]at he;subst he;have hP3:=hP2.keptTo hKT3 (by omega) (by omega);obtain⟨a0,a1,a2,a3,a4,a5,a6⟩:=hP3.c7;have fP:=hP3.frozen;have HK3:Hid (Kept b w w3):=KeptTo.kept_of HK2.out hKT3 (by omega)));rw[HE.out,<-HA.out,<-HQ.out,<-HD.out];exact bodyPost_ret (v:=.tuple #[.agg #[.string ⟨#[]⟩,.int .i64 0,.string ⟨#[]⟩,.string ⟨#[]⟩,.string ⟨#[]⟩,.slice none 0 0,.slice none 0 0],.bool false]) (by simp[results,results47,go_sem,a0,a1,a2,a3,a4,a5,a6]) rfl ⟨_,rfl,⟨_,_,_,_,_,_,_,_,_,_,_,rfl,by simp⟩,hR3.set7 _ (by omega) _ _ _ _ _ _ _,HK3.out.set7 _ (by omega) _ _ _ _ _ _ _⟩
theorem clause_rule(w:World)(b:Nat)(s:ByteArray)(l:B8)(hR:Rd w b s l)(hs:s.size<=281474976710656)(hok:(atomR s l).ok=true)(h58:tookB (atomR s l).rest 58=true)
 (hbo:(bodyR s [headSpot s l] (tookL (atomR s l).rest 58)).ok=true):
 Calls prog 47 #[.pointer (some ⟨b,0,none⟩)] w fun e w'=>∃v,e=.returned v/\ClauseIs w w' (clauseR s l) v/\Rd w' b s (clauseR s l).rest/\Kept b w w':=by
 have hsm:s.size<=maxLen:=by unfold maxLen;omega
 have hlt:=hR.lt;have HE:Hid (clauseR s l=⟨tookB (bodyR s [headSpot s l] (tookL (atomR s l).rest 58)).rest 46,(atomR s l).name,(atomR s l).ts,(bodyR s [headSpot s l] (tookL (atomR s l).rest 58)).lits,(bodyR s [headSpot s l] (tookL (atomR s l).rest 58)).spots,tookL (bodyR s [headSpot s l] (tookL (atomR s l).rest 58)).rest 46⟩):=by show clauseR s l=_;simp[clauseR,hok,h58,hbo]
 obtain⟨A,HA⟩:∃A,Hid (A=atomR s l):=⟨_,rfl⟩;have HHS:Hid ((headSpot s l).cells=[.int .i64 0,.int .i64 A.np',.int .i64 (A.p 0),.int .i64 (A.p 1),.int .i64 (A.p 2)]):=by rw[HA.out];rfl
 rw[<-HA.out]at hok h58 hbo;obtain⟨q,HQ⟩:∃q,Hid (q=tookL A.rest 58):=⟨_,rfl⟩;rw[<-HQ.out]at hbo;obtain⟨D,HD⟩:∃D,Hid (D=bodyR s [headSpot s l] q):=⟨_,rfl⟩;rw[<-HD.out]at hbo;go_enter func47,ntmps47;go_wp2_with (first|(go_at_call 72;refine(atom_l _ b s l (by exact hR.alloc _) hs).mono ?_;rintro e w1 ⟨he,hR1,hK1⟩;rw[<-HA.out]at he hR1;rw[AtR.val_eq,hok]at he;subst he;have hP1:=(Blk.new w zP 124).kept hK1 (by omega);have hz1:w.heap.size<w1.heap.size:=hP1.lt)|(go_at_call 73;refine(take_l _ b s A.rest 58 (by exact(((hR1.alloc _).alloc _).alloc _).alloc _) hsm (by omega)).mono ?_;rintro e w2 ⟨rfl,hR2,hK2⟩;rw[<-HQ.out]at hR2;have hP2:=((((hP1.alloc _).alloc _).alloc _).alloc _).kept hK2 (by omega);have hC2:=(new_four w1 _ _ _ [.string A.nm,.int .i64 A.cn,.string (A.t 0),.string (A.t 1),.string (A.t 2),.slice none 0 0,.slice (some ⟨w1.heap.size+1+1,0,none⟩) 1 1] 124).kept hK2 (by omega);have hW2:=(new_three w1 _ _ [.int .i64 0,.int .i64 A.np',.int .i64 (A.p 0),.int .i64 (A.p 1),.int .i64 (A.p 2)] 82 _).kept hK2 (by omega);have hz2:w1.heap.size+1+1+1<w2.heap.size:=hC2.lt;have HK2:Hid (Kept b w w2):=(((((((Kept.refl b w).allocs _).trans hK1).allocs _).allocs _).allocs _).allocs _).trans hK2;clear hK1 hK2 hP1)|(go_at_call 74;refine(body_l _ b s q (w1.heap.size+1+1+1) (w1.heap.size+1+1) _ _ _ _ _ (.slice (some ⟨w1.heap.size+1+1,0,none⟩) 1 1) [headSpot s l] (by exact hR2) hs hC2 (by rw[List.flatMap_singleton,HHS.out];exact own_one hW2 rfl (Nat.le_refl _)) rfl (by omega) (by omega) (by omega)).mono ?_;rintro e w3 ⟨he,bv,sv,hC3,hL3,hS3,hR3,hKT3⟩;rw[<-HD.out]at he hR3 hL3 hS3;rw[hbo]at he;subst he;have hP3:=hP2.keptTo hKT3 (by omega) (by omega);have HK3:Hid (Kept b w w3):=KeptTo.kept_of HK2.out hKT3 (by omega);have HLC:Hid (∃ao cap,bv=.slice ao D.lits.length cap):=own_form hL3;have HSC:Hid (∃po pcap,sv=.slice po D.spots.length pcap):=own_form hS3;clear hC2 hP2 hW2 hR2 hKT3 hR1));obtain⟨ao,cap,rfl⟩:=HLC.out;obtain⟨po,pcap,rfl⟩:=HSC.out;obtain⟨c0,c1,c2,c3,c4,c5,c6⟩:=hC3.c7
 go_region_with (go_at_call 73;refine(take_l _ b s D.rest 46 (by exact hR3.drew) hsm (by omega)).mono ?_;rintro e w4 ⟨rfl,hR4,hK4⟩;have hP4:=hP3.drew.kept hK4 (by omega);have hC4:=hC3.drew.kept hK4 (by omega);have hL4:=own_kept hL3.drew hK4 (own_ne hL3 hR3.at.1 (by decide));have hS4:=own_kept hS3.drew hK4 (own_ne hS3 hR3.at.1 (by decide));obtain⟨d0,d1,d2,d3,d4,d5,d6⟩:=hC4.c7;obtain⟨a0,a1,a2,a3,a4,a5,a6⟩:=hP4.c7;have fP:=hP4.frozen;have HK4:Hid (Kept b w w4):=HK3.out.drewn.trans hK4)
 all_goals go_wp2
 all_goals rw[HE.out,<-HA.out,<-HQ.out,<-HD.out]
 all_goals exact bodyPost_ret (v:=.tuple #[.agg #[.string A.nm,.int .i64 A.cn,.string (A.t 0),.string (A.t 1),.string (A.t 2),.slice ao D.lits.length cap,.slice po D.spots.length pcap],.bool (tookB D.rest 46)]) (by simp[results,results47,go_sem,a0,a1,a2,a3,a4,a5,a6]) rfl ⟨_,rfl,⟨A.nm,A.t 0,A.t 1,A.t 2,A.cn,ao,po,D.lits.length,D.spots.length,cap,pcap,rfl,fun _=>⟨rfl,rfl,rfl,own_set7 (own_mono hL4 (by omega)) _ (own_ne hL4 hP4 (by decide)) _ _ _ _ _ _ _,own_set7 (own_mono hS4 (by omega)) _ (own_ne hS4 hP4 (by decide)) _ _ _ _ _ _ _⟩⟩,hR4.set7 _ (by omega) _ _ _ _ _ _ _,HK4.out.set7 _ (by omega) _ _ _ _ _ _ _⟩
theorem clause_l(w:World)(b:Nat)(s:ByteArray)(l:B8)(hR:Rd w b s l)(hs:s.size<=281474976710656):
 Calls prog 47 #[.pointer (some ⟨b,0,none⟩)] w fun e w'=>∃v,e=.returned v/\ClauseIs w w' (clauseR s l) v/\Rd w' b s (clauseR s l).rest/\Kept b w w':=by
 cases h1:(atomR s l).ok
 ·exact clause_no w b s l hR hs h1
 ·cases h2:tookB (atomR s l).rest 58
  ·exact clause_fact w b s l hR hs h1 h2
  ·cases h3:(bodyR s [headSpot s l] (tookL (atomR s l).rest 58)).ok
   ·exact clause_bad w b s l hR hs h1 h2 h3
   ·exact clause_rule w b s l hR hs h1 h2 h3
structure ClD where
 name:B8
 ts:List B8
 lits:List LitD
 spots:List SpotD
structure PrR where
 ok:Bool
 cls:List ClD
 rest:B8
def ClR.d(r:ClR):ClD:=⟨r.name,r.ts,r.lits,r.spots⟩
def progR(s:ByteArray):Nat->List ClD->B8->PrR
 |0,ds,l=>if(skipL l).isEmpty=true then⟨true,ds,skipL l⟩ else⟨false,ds,skipL l⟩
 |f+1,ds,l=>
  if(skipL l).isEmpty=true then⟨true,ds,skipL l⟩
  else if(clauseR s (skipL l)).ok=false then⟨false,ds,(clauseR s (skipL l)).rest⟩
  else progR s f (ds++[(clauseR s (skipL l)).d]) (clauseR s (skipL l)).rest
def programR(s:ByteArray):PrR:=progR s 40 [] s.data.toList
def PlacedIs(w:World)(base:Nat)(d:ClD)(cs:List Value):Prop:=
 ∃bv sv,cs=atomCells d.name d.ts++[bv,sv]/\w.ownsRow base 130 6 bv d.lits.length (d.lits.flatMap LitD.cells)/\w.ownsRow base 82 5 sv d.spots.length (d.spots.flatMap SpotD.cells)
def ProgIs(w:World)(base:Nat)(v:Value)(ds:List ClD):Prop:=
 ∃rows:List (List Value),w.ownsRow base 124 7 v ds.length rows.flatten/\rows.length=ds.length/\∀(i:Nat) (d:ClD) (cs:List Value),ds[i]? =some d->rows[i]? =some cs->PlacedIs w base d cs
theorem PlacedIs.kept{w w':World}{base b:Nat}{d:ClD}{cs:List Value}(h:PlacedIs w base d cs)(hk:Kept b w w'){bs:List Value}{t:TypeId}(hb:Blk w b bs t)(h1:t≠130)(h2:t≠82):PlacedIs w' base d cs:=by obtain⟨bv,sv,hc,hl,hs⟩:=h;exact⟨bv,sv,hc,own_kept hl hk (own_ne hl hb h1),own_kept hs hk (own_ne hs hb h2)⟩
theorem ProgIs.kept{w w':World}{base b:Nat}{v:Value}{ds:List ClD}(h:ProgIs w base v ds)(hk:Kept b w w'){bs:List Value}{t:TypeId}(hb:Blk w b bs t)(h0:t≠124)(h1:t≠130)(h2:t≠82):ProgIs w' base v ds:=by obtain⟨rows,ho,hl,hr⟩:=h;exact⟨rows,own_kept ho hk (own_ne ho hb h0),hl,fun i d cs hd hc=>(hr i d cs hd hc).kept hk hb h1 h2⟩
theorem PlacedIs.alloc{w:World}{base:Nat}{d:ClD}{cs:List Value}(h:PlacedIs w base d cs)(o:Obj):PlacedIs (w.alloc o) base d cs:=by obtain⟨bv,sv,hc,hl,hs⟩:=h;exact⟨bv,sv,hc,hl.alloc o,hs.alloc o⟩
theorem ProgIs.alloc{w:World}{base:Nat}{v:Value}{ds:List ClD}(h:ProgIs w base v ds)(o:Obj):ProgIs (w.alloc o) base v ds:=by obtain⟨rows,ho,hl,hr⟩:=h;exact⟨rows,ho.alloc o,hl,fun i d cs hd hc=>(hr i d cs hd hc).alloc o⟩
theorem ProgIs.nil(w:World)(base:Nat):ProgIs w base (.slice none 0 0) []:=⟨[],World.ownsRow_nil _ _ _ _,rfl,by simp⟩
theorem ProgIs.form{w:World}{base:Nat}{v:Value}{ds:List ClD}(h:ProgIs w base v ds):∃ao cap,v=.slice ao ds.length cap:=by obtain⟨rows,ho,hl,hr⟩:=h;exact own_form ho
theorem infoPlaced:(prog.info? 124).map (fun i=>(i.zero,i.size,i.bytes))=some (some (.agg #[.string ⟨#[]⟩,.int .i64 0,.string ⟨#[]⟩,.string ⟨#[]⟩,.string ⟨#[]⟩,.slice none 0 0,.slice none 0 0]),7,120):=by kernel_rfl
theorem wpList_append_ownS{P:Program}(w:World){ops:Array Oper}{rest:List Oper}{o:Oper}{a:Act}{Q:Exit->Act->World->Prop}(hgd:o.guard=none)(s x:Operand)(t:TypeId)
 (ho:o.op=.call { callee:=.builtin .append,args:=#[s,x],argTypes:=#[t,t] })
 (base:Nat)(e:TypeId)(i:TypeInfo)(z:Value)(size bytes:Nat)(ht:P.underlying t=some (.slice e))(hi:P.info? e=some i)(hz:i.zero=some z)
 (hsize:i.size=size)(hby:i.bytes=bytes)(hzs:z.cells.size=size)(hsz:0<size)
 (v:Value)(n:Nat)(xs:List Value)(hs:a.eval s=v)(hown:w.ownsRow base e size v n xs)
 (ad:Addr)(c:Nat)(news:List Value)(hx:a.eval x=.slice (some ad) 1 c)(hl:news.length=size)(hnews:∀j u,news[j]? =some u->w.cell? (ad.add j)=some u)(h1:∀u∈news,u.oneCell'=true)
 (h63:n+1<=maxLen)(hbytes:(n+1)*bytes<=140737488355328)(hbase:base<=w.heap.size)
 (h:∀g cap w',w'.ownsRow base e size (.slice (some ⟨g,0,none⟩) (n+1) cap) (n+1) (xs++news)->w.grownBy w' v.ownBlock->wpList P ops Q rest (a.put o.dst (.slice (some ⟨g,0,none⟩) (n+1) cap)) w'):wpList P ops Q (o::rest) a w:=by
 refine wpList_append_own w hgd s x t ho base e i z size bytes ht hi hz hsize hby hzs hsz v n xs hs hown ad 1 c news hx (by omega) hnews h1 h63 hbytes hbase ?_;intro v' w' h2 h3 _;rcases h2.2 with⟨hv,hn⟩|⟨g,cap,cur,hv,_⟩
 ·omega
 ·subst hv;exact h g cap w' h2 h3
def B2(w w1 w2:World):Prop:=w.heap.size<=w1.heap.size/\w.heap.size<=w2.heap.size
theorem ProgIs.more{w w':World}{base:Nat}{v v':Value}{ds:List ClD}{d:ClD}{cs:List Value}{rows:List (List Value)}(hr:∀(i:Nat) (d:ClD) (cs:List Value),ds[i]? =some d->rows[i]? =some cs->PlacedIs w base d cs)(hl:rows.length=ds.length)
 (ho:w.ownsRow base 124 7 v ds.length rows.flatten)(hd:PlacedIs w base d cs)
 (ho':w'.ownsRow base 124 7 v' (ds.length+1) (rows.flatten++cs))(hg:w.grownBy w' v.ownBlock):ProgIs w' base v' (ds++[d]):=by
 have step:∀d cs,PlacedIs w base d cs->PlacedIs w' base d cs:=by rintro d cs ⟨bv,sv,hc,hlb,hsb⟩;exact⟨bv,sv,hc,hlb.kept hg (own_ne2 hlb ho (by decide)),hsb.kept hg (own_ne2 hsb ho (by decide))⟩
 refine⟨rows++[cs],by simpa using ho',by simp[hl],?_⟩;intro i d' cs' h1 h2;by_cases hi:i<ds.length
 ·rw[List.getElem?_append_left hi]at h1;rw[List.getElem?_append_left (by omega)]at h2;exact step _ _ (hr i d' cs' h1 h2)
 ·rw[List.getElem?_append_right (by omega)]at h1;rw[List.getElem?_append_right (by omega),hl]at h2
  cases hk:i-ds.length with
  |zero=>rw[hk]at h1 h2;simp at h1 h2;subst h1;subst h2;exact step _ _ hd
  |succ k=>rw[hk]at h1;simp at h1
theorem new_cells2(w:World)(o:Obj)(cs:List Value)(t:TypeId):∀j u,cs[j]? =some u->((w.alloc o).alloc (.cells cs.toArray t)).cell? ((⟨w.heap.size+1,0,none⟩:Addr).add j)=some u:=by
 intro j u h;have h':=new_cells (w.alloc o) cs t j u h;have e:(w.alloc o).heap.size=w.heap.size+1:=by simp
 rwa [e]at h'
def slen:Value->Nat|.slice _ n _=>n|_=>0
def progV(r:PrR)(s:ByteArray)(v:Value):Value:=if r.ok=true then .tuple #[v,.int .i64 0,.bool true] else .tuple #[.slice none 0 0,.int .i64 (posOf s r.rest),.bool false]
theorem readProgram_l(w:World)(s:ByteArray)(hs:s.size<=281474976710656):
 Calls prog 30 #[.string s] w fun e w'=>∃v,e=.returned (progV (programR s) s v)/\((programR s).ok=true->ProgIs w' w.heap.size v (programR s).cls)/\Below w.heap.size w w':=by
 have hsm:s.size<=maxLen:=by unfold maxLen;omega
 have hR0:Rd (w.alloc (.cells #[.string s,.int .i64 0] 121)) w.heap.size s s.data.toList:=⟨0,by omega,by simp,Blk.new w [.string s,.int .i64 0] 121⟩;obtain⟨i1,hi1,hy0,hy1,hy2⟩:=info_parts infoPlaced;go_enter func30,ntmps30;go_wp2
 go_loopw [6] (fun v wr=>∃(ds:List ClD) (r:B8),ds.length<=40/\Hid (progR s (40-ds.length) ds r=programR s)/\Rd wr w.heap.size s r/\ProgIs wr w.heap.size v ds/\Below w.heap.size w wr) (fun v _=>40-slen v)
 case atStart=>exact⟨[],s.data.toList,by simp,rfl,hR0,ProgIs.nil _ _,(Below.refl _ _).alloc (Nat.le_refl _) _⟩
 case round=>
  obtain⟨ds,r,hd4,HX,hRr,hPr,hB⟩:=hrel;obtain⟨ao,cap,rfl⟩:=hPr.form;have hbw:w.heap.size<wr.heap.size:=hRr.lt;cases hem:(skipL r).isEmpty
  ·by_cases h40:ds.length=40
   ·have hq:((ds.length:Int)==40)=true:=by rw[beq_iff_eq];omega
    have HE:Hid (programR s=⟨false,ds,skipL r⟩):=by show programR s=_;rw[<-HX.out,h40];simp[progR,hem]
    clear h40;go_wp2_with (go_at_call 46;refine(atEnd_l _ w.heap.size s r (by exact hRr) hsm).mono ?_;rintro e w1 ⟨rfl,hR1,hK1⟩;have c1:=hR1.c1)
    go_quiet (fail)
    go_wp2
    go_ret3
    rw[HE.out];exact⟨.slice none 0 0,by simp[progV],by simp,hB.trans (below_drewN (hK1.below (Nat.le_refl _) (by omega)) _)⟩
   ·have hq:((ds.length:Int)==40)=false:=by rw[beq_eq_false_iff_ne];omega
    have hd39:ds.length+1<=40:=by omega
    have HN:Hid (40-ds.length=(39-ds.length)+1):=by show 40-ds.length=_;omega
    clear h40;obtain⟨m,HM⟩:∃m,Hid (m=skipL r):=⟨_,rfl⟩;obtain⟨C,HC⟩:∃C,Hid (C=clauseR s m):=⟨_,rfl⟩;cases hok:C.ok
    ·have HE:Hid (programR s=⟨false,ds,C.rest⟩):=by show programR s=_;rw[HC.out,HM.out]at hok;rw[<-HX.out,HN.out];simp[progR,hem,hok,HC.out,HM.out]
     go_wp2_with (first|(go_at_call 46;refine(atEnd_l _ w.heap.size s r (by exact hRr) hsm).mono ?_;rintro e w1 ⟨rfl,hR1,hK1⟩;rw[<-HM.out]at hR1)|(go_at_call 47;refine(clause_l _ w.heap.size s m (by exact hR1) hs).mono ?_;rintro e w2 ⟨v,rfl,hv,hR2,hK2⟩;rw[<-HC.out]at hv hR2;obtain⟨n0,t0,t1,t2,c,ao2,po2,n2,m2,cap2,pcap2,hve,-⟩:=hv;rw[hok]at hve;subst hve;have c1:=hR2.c1;have hz2:w.heap.size<w2.heap.size:=hR2.lt))
     go_quiet (fail)
     go_wp2
     go_ret3
     rw[HE.out];exact⟨.slice none 0 0,by simp[progV],by simp,hB.trans (below_drewN (((hK1.trans hK2).allocs _).below (Nat.le_refl _) (by omega)) _)⟩
    ·have HE:Hid (progR s (40-(ds++[C.d]).length) (ds++[C.d]) C.rest=programR s):=by show progR s (40-(ds++[C.d]).length) (ds++[C.d]) C.rest=programR s;rw[HC.out,HM.out]at hok;rw[<-HX.out,HN.out,List.length_append,List.length_singleton,show 40-(ds.length+1)=39-ds.length by omega];simp[progR,hem,hok,HC.out,HM.out]
     go_wp2_with (first|(go_at_call 46;refine(atEnd_l _ w.heap.size s r (by exact hRr) hsm).mono ?_;rintro e w1 ⟨rfl,hR1,hK1⟩;rw[<-HM.out]at hR1)|(go_at_call 47;refine(clause_l _ w.heap.size s m (by exact hR1) hs).mono ?_;rintro e w2 ⟨v,rfl,hv,hR2,hK2⟩;rw[<-HC.out]at hv hR2;obtain⟨n0,t0,t1,t2,c,ao2,po2,n2,m2,cap2,pcap2,hve,hvc⟩:=hv;have HVC:=hid (hvc hok);clear hvc;rw[hok]at hve;subst hve;have hz2:w.heap.size<w2.heap.size:=hR2.lt;have HP2:=hid ((hPr.kept hK1 hRr.at.1 (by decide) (by decide) (by decide)).kept hK2 hR1.at.1 (by decide) (by decide) (by decide));obtain⟨rows,ho,hl,hr⟩:=HP2.out;have HL:=hid hl;clear hl;have hb2:B2 w w1 w2:=⟨by have:=hK1.size;omega,by omega⟩)|(at_builtin;refine wpList_append_ownS _ rfl _ _ 69 rfl w.heap.size 124 i1 _ 7 120 underlying69 hi1 hy0 hy1 hy2 rfl (by decide) _ ds.length rows.flatten rfl ((ho.alloc _).alloc _) ⟨w2.heap.size+1,0,none⟩ 1 [Value.string n0,.int .i64 c,.string t0,.string t1,.string t2,.slice ao2 n2 cap2,.slice po2 m2 pcap2] rfl rfl (new_cells2 _ _ _ _) (by intro u hu;simp at hu;rcases hu with rfl|rfl|rfl|rfl|rfl|rfl|rfl<;>rfl) (by unfold maxLen;omega) (by omega) (by simp;omega) ?_;intro g cap3 w3 ho3 hg3));obtain⟨hv1,hv2,hv3,hv4,hv5⟩:=HVC.out
     have hpl:PlacedIs w2 w.heap.size C.d [Value.string n0,.int .i64 c,.string t0,.string t1,.string t2,.slice ao2 n2 cap2,.slice po2 m2 pcap2]:=by
      refine⟨.slice ao2 n2 cap2,.slice po2 m2 pcap2,?_,?_,?_⟩
      ·show [Value.string n0,.int .i64 c,.string t0,.string t1,.string t2]++[Value.slice ao2 n2 cap2,.slice po2 m2 pcap2]=_;rw[hv1];rfl
      ·rw[hv2]at hv4⊢;exact own_mono hv4 hb2.1
      ·rw[hv3]at hv5⊢;exact own_mono hv5 hb2.1
     have hmore:=ProgIs.more (fun i d cs h1 h2=>((hr i d cs h1 h2).alloc _).alloc _) HL.out ((ho.alloc _).alloc _) ((hpl.alloc _).alloc _) ho3 hg3;have hR3:=((hR2.alloc _).alloc _).grown hg3 (own_ne ho hR2.at.1 (by decide));have hB3:=((hB.trans ((hK1.trans hK2).below (Nat.le_refl _) (by omega))).alloc (by omega) _|>.alloc (by simp;omega) _).grown hg3 (by simp;omega) (own_base ho);exact⟨⟨ds++[C.d],C.rest,by simpa using hd39,HE,hR3,hmore,hB3⟩,by simp[slen];omega⟩
  ·have HE:Hid (programR s=⟨true,ds,skipL r⟩):=by show programR s=_;rw[<-HX.out];cases 40-ds.length<;>simp[progR,hem]
   go_wp2_with (go_at_call 46;refine(atEnd_l _ w.heap.size s r (by exact hRr) hsm).mono ?_;rintro e w1 ⟨rfl,hR1,hK1⟩)
   go_ret3
   rw[HE.out];exact⟨_,by simp[progV],fun _=>hPr.kept hK1 hRr.at.1 (by decide) (by decide) (by decide),hB.trans (hK1.below (Nat.le_refl _) (by omega))⟩
end
section
attribute [local go_sem] drewN_alloc drewN_setCell
open Go.RowKit Go.WideMaps Go.Maps
theorem law9:Keyed prog 9:=string_keyed underlying9
theorem zero3(w:World):(zeroValue 3).run prog w=.ok (.int .i64 0) w:=by kernel_rfl
def posIn(xs:List B8)(k:B8):Nat:=if k∈xs then xs.idxOf k else 0
theorem key_string(k:B8):WideAt.IsKeyLit (.string k):=by simp[WideAt.IsKeyLit]
theorem bs_size(k:B8):(bs k).size=k.length:=by simp[bs,ByteArray.size]
def hasW(xs:List B8)(k:B8):Bool:=xs.contains k
def atW(xs:List B8)(i:Nat):ByteArray:=bs (xs.getD i [])
def MapOf(D:DataW Unit)(xs:List B8):Prop:=
 IsMap D/\∀k:B8,Maps.has D (.string k)=hasW xs k/\D.atKey (.string k) (.lit (.int .i64 0))=.lit (.int .i64 (posIn xs k))
theorem MapOf.nil:MapOf (.map []) []:=⟨isMap_empty,fun _=>⟨rfl,rfl⟩⟩
theorem MapOf.put{D:DataW Unit}{xs:List B8}(h:MapOf D xs)(k:B8)(hk:k∉xs):MapOf (D.put (.string k) (.lit (.int .i64 xs.length))) (xs++[k]):=by
 refine⟨h.1.put _ _,fun j=>?_⟩;by_cases hj:j=k
 ·subst hj;rw[has_put_same h.1 (key_string j),atKey_put_same h.1 (key_string j)];refine⟨by simp[hasW],?_⟩;have:posIn (xs++[j]) j=xs.length:=by simp[posIn,List.idxOf_append,hk]
  rw[this]
 ·have hne:(Lit.string j)≠ .string k:=by intro e;exact hj (by injection e)
  rw[has_put_other hne,atKey_put_other hne,(h.2 j).1,(h.2 j).2];refine⟨by simp[hasW,hj],?_⟩
  have:posIn (xs++[k]) j=posIn xs j:=by
   by_cases hx:j∈xs
   ·simp[posIn,hx,List.idxOf_append]
   ·simp[posIn,hx,hj]
  rw[this]
def SetIs(w:World)(base:Nat)(mv lv:Value)(xs:List B8):Prop:=
 w.ownsRow base 9 1 lv xs.length (xs.map fun x=>.string (bs x))/\
 ((mv=.map none/\xs=[])\/∃r D,mv=.map (some r)/\base<=r/\w.ownsMap (H:=Unit) prog 9 (plainElem prog 3) r xs.length D/\MapOf D xs)
theorem find_c(w:World)(base sb:Nat)(mv lv:Value)(more:List Value)(t:TypeId)(xs:List B8)(k:B8)(hB:Blk w sb (mv::lv::more) t)(hS:SetIs w base mv lv xs)(hk:k.length<=maxLen):
 Calls prog 34 #[.pointer (some ⟨sb,0,none⟩),.string (bs k)] w fun e w'=>e=.returned (.tuple #[.int .i64 (posIn xs k:Nat),.bool (hasW xs k)])/\w'=w:=by
 have c0:w.cell? ⟨sb,0,none⟩=some mv:=hB.cell 0;have hkey:keyOf prog 9 (.string (bs k))=some (.string k):=keyOf_string_mk underlying9 (by rw[bs_size];exact hk);rcases hS.2 with⟨rfl,rfl⟩|⟨r,D,rfl,hr,hown,hD⟩
 ·have hnil:=fun w:World=>look_nil (w:=w) true law9 underlying98 (zero3 w) hkey;go_enter func34,ntmps34;go_wp2;go_ret2;exact⟨rfl,rfl⟩
 ·obtain⟨hh,ha⟩:=hD.2 k;obtain⟨p,HP⟩:∃p:Int,Hid (p=(posIn xs k:Nat)):=⟨_,rfl⟩;rw[<-HP.out]at ha⊢;go_enter func34,ntmps34;go_wp2_with (at_lookup;refine wpList_lookup_own_ok_int _ rfl _ _ 98 rfl 9 3 .i64 law9 underlying98 underlying3 (zero3 _) r xs.length D rfl hown _ _ rfl hkey ?_;intro cL hat hwc;rw[hh];have hcl:cL=p:=(by rw[ha]at hat;simpa using hat.symm);subst hcl);go_ret2;exact⟨rfl,rfl⟩
theorem has_c(w:World)(base sb:Nat)(mv lv:Value)(more:List Value)(t:TypeId)(xs:List B8)(k:B8)(hB:Blk w sb (mv::lv::more) t)(hS:SetIs w base mv lv xs)(hk:k.length<=maxLen):
 Calls prog 76 #[.pointer (some ⟨sb,0,none⟩),.string (bs k)] w fun e w'=>e=.returned (.bool (hasW xs k))/\w'=w:=by
 obtain⟨p,HP⟩:∃p:Int,Hid (p=(posIn xs k:Nat)):=⟨_,rfl⟩;go_enter func76,ntmps76;go_wp2_with (go_at_call 34;refine(find_c _ base sb mv lv more t xs k hB hS hk).mono ?_;rintro e w1 ⟨he,rfl⟩;rw[<-HP.out]at he;subst he)
 go_ret
 exact⟨rfl,rfl⟩
theorem len_c(w:World)(base sb:Nat)(mv lv:Value)(more:List Value)(t:TypeId)(xs:List B8)(hB:Blk w sb (mv::lv::more) t)(hS:SetIs w base mv lv xs):
 Calls prog 35 #[.pointer (some ⟨sb,0,none⟩)] w fun e w'=>e=.returned (.int .i64 xs.length)/\w'=w:=by
 obtain⟨ao,cap,rfl⟩:=own_form hS.1;have c1:w.cell? ⟨sb,1,none⟩=some (.slice ao xs.length cap):=hB.cell 1;go_enter func35,ntmps35;go_wp2
 go_ret
 exact⟨rfl,rfl⟩
theorem own_cell{w:World}{base:Nat}{e:TypeId}{ao:Option Addr}{n cap:Nat}{xs:List Value}(h:w.ownsRow base e 1 (.slice ao n cap) n xs)(j:Nat)(hj:j<n):∃g,ao=some ⟨g,0,none⟩/\w.cell? ⟨g,j,none⟩=xs[j]? :=by
 rcases h.2 with⟨h1,h2⟩|⟨g,cap',cur,h1,_,_⟩
 ·omega
 ·injection h1 with h1
  refine⟨g,h1,?_⟩;subst h1;have hl:j<xs.length:=by have:=h.1;omega
  have:=h.cells (g:=g) rfl j xs[j] (by simp[hl]);rw[Addr.add_lit,Nat.zero_add]at this;rw[this];simp[hl]
theorem at_c(w:World)(base sb:Nat)(mv lv:Value)(more:List Value)(t:TypeId)(xs:List B8)(hB:Blk w sb (mv::lv::more) t)(hS:SetIs w base mv lv xs)(i:Nat)(hi:i<xs.length):
 Calls prog 90 #[.pointer (some ⟨sb,0,none⟩),.int .i64 i] w fun e w'=>e=.returned (.string (atW xs i))/\w'=w:=by
 obtain⟨ao,cap,rfl⟩:=own_form hS.1;have c1:w.cell? ⟨sb,1,none⟩=some (.slice ao xs.length cap):=hB.cell 1;obtain⟨g,rfl,hg⟩:=own_cell hS.1 i hi;have hgg:w.cell? ⟨g,i,none⟩=some (.string (atW xs i)):=by rw[hg];simp[hi,atW]
 clear hg;go_enter func90,ntmps90;go_wp2
 go_ret
 exact⟨rfl,rfl⟩
structure KeptX(base sb:Nat)(T:List TypeId)(w w':World):Prop where
 os:w'.os=w.os
 tape:w'.tape=w.tape
 output:w'.output=w.output
 size:w.heap.size<=w'.heap.size
 low:∀k,k<base->k≠sb->w'.heap[k]? =w.heap[k]?
 ty:∀(k:Nat) (cs:List Value) (t:TypeId),k≠sb->t∉T->Blk w k cs t->Blk w' k cs t
theorem KeptX.refl(base sb:Nat)(T:List TypeId)(w:World):KeptX base sb T w w:=⟨rfl,rfl,rfl,Nat.le_refl _,fun _ _ _=>rfl,fun _ _ _ _ _ h=>h⟩
theorem KeptX.trans{base sb:Nat}{T:List TypeId}{u v w:World}(h:KeptX base sb T u v)(k:KeptX base sb T v w):KeptX base sb T u w:=
 ⟨k.os.trans h.os,k.tape.trans h.tape,k.output.trans h.output,Nat.le_trans h.size k.size,fun i hi hn=>(k.low i hi hn).trans (h.low i hi hn),fun i cs t h1 h2 h3=>k.ty i cs t h1 h2 (h.ty i cs t h1 h2 h3)⟩
theorem KeptX.kept{base sb:Nat}{T:List TypeId}{v w:World}(k:Kept sb v w)(hb:base<=v.heap.size):KeptX base sb T v w:=
 ⟨k.os,k.tape,k.output,k.size,fun i hi hn=>k.block i (by omega) hn,fun _ _ _ h1 _ h3=>h3.kept k h1⟩
theorem KeptX.own{base sb:Nat}{T:List TypeId}{w w':World}(h:KeptX base sb T w w'){base':Nat}{e:TypeId}{size:Nat}{v:Value}{n:Nat}{xs:List Value}(ho:w.ownsRow base' e size v n xs)(hne:v.ownBlock≠some sb)(hT:e∉T):w'.ownsRow base' e size v n xs:=by
 refine⟨ho.1,?_⟩;rcases ho.2 with h2|⟨g,cap,cur,hv,hg,hh,r⟩
 ·exact .inl h2
 ·refine .inr ⟨g,cap,cur,hv,hg,?_,r⟩;have hk:=h.ty g cur.toList e (by intro e';rw[hv]at hne;simp[Value.ownBlock,e']at hne) hT (by unfold Blk;simpa using hh);unfold Blk at hk;simpa using hk
theorem KeptX.grown{base sb:Nat}{T:List TypeId}{w w':World}{base':Nat}{e:TypeId}{size:Nat}{v:Value}{n:Nat}{xs:List Value}(hg:w.grownBy w' v.ownBlock)(ho:w.ownsRow base' e size v n xs)(hb:base<=base')(hw:base<=w.heap.size)(hT:e∈T):KeptX base sb T w w':=by refine⟨hg.os,hg.tape,hg.output,hg.size,fun k hk _=>hg.block k (by omega) (fun e=>by have:=own_base ho k e.symm;omega),fun k cs t _ h2 h3=>h3.grown hg (own_ne ho h3 (fun e=>h2 (e▸hT)))⟩
theorem map_ne{w:World}{P:Program}{k:TypeId}{R:Value->Option (DataW Unit×List MemPlace)}{r n:Nat}{D:DataW Unit}(h:w.ownsMap P k R r n D){b:Nat}{cs:List Value}{t:TypeId}(hb:Blk w b cs t):b≠r:=by obtain⟨es,clock,hh,_⟩:=h;intro e;subst e;unfold Blk at hb;rw[hb]at hh;simp at hh
theorem map_row{w:World}{P:Program}{k:TypeId}{R:Value->Option (DataW Unit×List MemPlace)}{r n:Nat}{D:DataW Unit}(h:w.ownsMap P k R r n D){base:Nat}{e:TypeId}{size:Nat}{v:Value}{m:Nat}{xs:List Value}(ho:w.ownsRow base e size v m xs):v.ownBlock≠some r:=by
 rcases ho.2 with⟨rfl,_⟩|⟨g,cap,cur,rfl,_,hg,_⟩
 ·simp[Value.ownBlock]
 ·intro he;simp only[Value.ownBlock,Option.some.injEq]at he;exact map_ne h (b:=g) (cs:=cur.toList) (t:=e) (by unfold Blk;simpa using hg) he
theorem KeptX.map{base sb:Nat}{T:List TypeId}{w w':World}{P:Program}{k:TypeId}{R:Value->Option (DataW Unit×List MemPlace)}{r n:Nat}{D:DataW Unit}(hg:w.grownBy w' (some r))(h:w.ownsMap P k R r n D)(hb:base<=r):KeptX base sb T w w':=
 ⟨hg.os,hg.tape,hg.output,hg.size,fun i hi _=>hg.block i (by have:=h.lt;omega) (by simp;omega),fun i cs t _ _ h3=>h3.grown hg (by intro e;simp at e;exact map_ne h h3 e.symm)⟩
theorem map_kept{w w':World}{P:Program}{k:TypeId}{R:Value->Option (DataW Unit×List MemPlace)}{r n b:Nat}{D:DataW Unit}(h:w.ownsMap P k R r n D)(hk:Kept b w w')(hn:r≠b):w'.ownsMap P k R r n D:=
 h.kept (row:=some b) ⟨hk.os,hk.tape,hk.output,hk.size,fun i hi hne=>hk.block i hi (fun e=>hne (by rw[e]))⟩ (by simpa using hn)
theorem infoStr:(prog.info? 9).map (fun i=>(i.zero,i.size,i.bytes))=some (some (.string ⟨#[]⟩),1,16):=by kernel_rfl
theorem add_old(w:World)(base sb:Nat)(mv lv:Value)(more:List Value)(t:TypeId)(xs:List B8)(k:B8)(hB:Blk w sb (mv::lv::more) t)(hS:SetIs w base mv lv xs)(hk:k.length<=maxLen)(hx:hasW xs k=true):
 Calls prog 52 #[.pointer (some ⟨sb,0,none⟩),.string (bs k)] w fun e w'=>e=.returned (.tuple #[.int .i64 (posIn xs k),.bool false])/\w'=w:=by
 obtain⟨p,HP⟩:∃p:Int,Hid (p=(posIn xs k:Nat)):=⟨_,rfl⟩;rw[<-HP.out];go_enter func52,ntmps52;go_wp2_with (go_at_call 34;refine(find_c _ base sb mv lv more t xs k hB hS hk).mono ?_;rintro e w1 ⟨he,rfl⟩;rw[hx,<-HP.out]at he;subst he);go_ret2;exact⟨rfl,rfl⟩
theorem add_new(w:World)(base sb:Nat)(mv lv:Value)(more:List Value)(t:TypeId)(xs:List B8)(k:B8)(hB:Blk w sb (mv::lv::more) t)(hS:SetIs w base mv lv xs)(hk:k.length<=maxLen)(hx:hasW xs k=false)(hn:xs.length<=100000)(ht:t≠9)(hbw:base<=w.heap.size):
 Calls prog 52 #[.pointer (some ⟨sb,0,none⟩),.string (bs k)] w fun e w'=>e=.returned (.tuple #[.int .i64 xs.length,.bool true])/\
  ∃mv' lv',Blk w' sb (mv'::lv'::more) t/\SetIs w' base mv' lv' (xs++[k])/\KeptX base sb [9] w w':=by
 have hkx:k∉xs:=by simpa[hasW]using hx
 have c0:w.cell? ⟨sb,0,none⟩=some mv:=hB.cell 0;have c1:w.cell? ⟨sb,1,none⟩=some lv:=hB.cell 1;have hkey:keyOf prog 9 (.string (bs k))=some (.string k):=keyOf_string_mk underlying9 (by rw[bs_size];exact hk);obtain⟨i1,hi1,hy0,hy1,hy2⟩:=info_parts infoStr;obtain⟨pp,HP⟩:∃p:Int,Hid (p=(posIn xs k:Nat)):=⟨_,rfl⟩;have hF:=find_c w base sb mv lv more t xs k hB hS hk;rw[hx,<-HP.out]at hF;obtain⟨ao,cap,rfl⟩:=own_form hS.1;rcases hS.2 with⟨rfl,rfl⟩|⟨r,D,rfl,hr,hown,hD⟩
 ·have hnil:=fun w:World=>run_eql_map_nil (P:=prog) w 98 9 3 none underlying98;have hmm:=@run_makeMap prog;have hslt:=hB.lt;have hsne:sb≠w.heap.size:=by omega
  have f0:=hB.frozen
  have hmade:((w.setCell ⟨sb,0,none⟩ (.map (some w.heap.size))).alloc (.map #[] 0)).ownsMap (H:=Unit) prog 9 (plainElem prog 3) w.heap.size 0 (.map []):=by
   have h:=World.ownsMap_made (H:=Unit) (w.setCell ⟨sb,0,none⟩ (.map (some w.heap.size))) prog 9 (plainElem prog 3);have e:(w.setCell ⟨sb,0,none⟩ (.map (some w.heap.size))).heap.size=w.heap.size:=by simp[World.setCell]
   rwa [e]at h
  have hB0:Blk ((w.setCell ⟨sb,0,none⟩ (.map (some w.heap.size))).alloc (.map #[] 0)) sb (.map (some w.heap.size):: .slice ao 0 cap::more) t:=(hB.setCell 0 (.map (some w.heap.size))).alloc (.map #[] 0);have hlr:=own_lt_ne hS.1 (k:=w.heap.size) (Nat.le_refl _);have hL0:=(own_set hS.1 ⟨sb,0,none⟩ (.map (some w.heap.size)) (own_ne hS.1 hB ht)).alloc (.map #[] 0);clear hx;go_enter func52,ntmps52;go_wp2_with (first|(go_at_call 34;refine hF.mono ?_;rintro e w9 ⟨rfl,hw9⟩;subst w9)|(at_mapUpdate;refine wpList_mapUpdate_own _ rfl _ _ _ 98 rfl 9 3 law9 underlying98 _ w.heap.size 0 (.map []) rfl hmade (by unfold maxLen;omega) _ _ _ rfl rfl hkey _ [] (plainElem_int underlying3 (by decide)) ?_;intro w1 hown1 hg1;have hB1:=hB0.grown hg1 (by simpa using hsne.symm);have hL1:=hL0.kept hg1 (.inr hlr);have d0:=hB1.cell 0;have d1:=hB1.cell 1;have fB:=hB1.frozen;simp at d0 d1)|(at_builtin;refine wpList_append_ownS _ rfl _ _ 31 rfl base 9 i1 _ 1 16 underlying31 hi1 hy0 hy1 hy2 rfl (by decide) _ 0 [] rfl (hL1.alloc _) ⟨w1.heap.size,0,none⟩ 1 [.string (bs k)] rfl rfl (new_cells _ _ _) (by intro u hu;simp at hu;subst hu;rfl) (by unfold maxLen;omega) (by omega) (by have:=hg1.size;simp at this;simp;omega) ?_;intro g cap2 w2 hL2 hg2;have hB2:=(hB1.alloc _).grown hg2 (own_ne hL1 hB1 ht);have e0:=hB2.cell 0;have e1:=hB2.cell 1;have fB2:=hB2.frozen;simp at e0 e1));go_ret2;have hb1:base<=w1.heap.size:=by have:=hg1.size;simp at this;omega
  refine⟨rfl,.map (some w.heap.size),.slice (some ⟨g,0,none⟩) 1 cap2,hB2.setCell 1 _,⟨?_,.inr ⟨w.heap.size,_,rfl,hbw,?_,MapOf.nil.put k hkx⟩⟩,?_⟩
  ·simpa using own_set hL2 ⟨sb,1,none⟩ _ (own_ne hL2 hB2 ht)
  ·have h2:=(hown1.alloc _).kept hg2 (Ne.symm hlr);simpa using map_kept h2 (Kept.setCell (b:=sb) w2 (p:=⟨sb,1,none⟩) rfl _) hsne.symm
  ·refine(KeptX.kept (Kept.setCell (b:=sb) w (p:=⟨sb,0,none⟩) rfl _) hbw).trans ((KeptX.kept (Kept.alloc sb _ _) (by simp[World.setCell];omega)).trans ((KeptX.map hg1 hmade hbw).trans ((KeptX.kept (Kept.alloc sb w1 _) hb1).trans ((KeptX.grown hg2 (hL1.alloc _) (Nat.le_refl _) (by simp;omega) (by simp)).trans (KeptX.kept (Kept.setCell (b:=sb) w2 (p:=⟨sb,1,none⟩) rfl _) ?_)))));have:=hg2.size;simp at this;omega
 ·obtain⟨hh,ha⟩:=hD.2 k;rw[hx]at hh;have hnil:=fun w:World=>run_eql_map_nil (P:=prog) w 98 9 3 (some r) underlying98;have hwf:(Lit.int .i64 (xs.length:Int)).wf=true:=WalkArith.wf_i64 (n:=(xs.length:Int)) ⟨by omega,by omega⟩;have hsr:=map_ne hown hB;have hlr:=map_row hown hS.1;clear hx;go_enter func52,ntmps52;go_wp2_with (first|(go_at_call 34;refine hF.mono ?_;rintro e w9 ⟨rfl,hw9⟩;subst w9)|(at_mapUpdate;refine wpList_mapUpdate_own _ rfl _ _ _ 98 rfl 9 3 law9 underlying98 _ r xs.length D rfl hown (by unfold maxLen;omega) _ _ _ rfl rfl hkey _ [] (plainElem_int underlying3 hwf) ?_;intro w1 hown1 hg1;have hB1:=hB.grown hg1 (by simpa using hsr.symm);have hL1:=hS.1.kept hg1 (.inr hlr);have d0:=hB1.cell 0;have d1:=hB1.cell 1;have fB:=hB1.frozen;simp at d0 d1)|(at_builtin;refine wpList_append_ownS _ rfl _ _ 31 rfl base 9 i1 _ 1 16 underlying31 hi1 hy0 hy1 hy2 rfl (by decide) _ xs.length (xs.map fun x=>.string (bs x)) rfl (hL1.alloc _) ⟨w1.heap.size,0,none⟩ 1 [.string (bs k)] rfl rfl (new_cells _ _ _) (by intro u hu;simp at hu;subst hu;rfl) (by unfold maxLen;omega) (by omega) (by have:=hg1.size;simp;omega) ?_;intro g cap2 w2 hL2 hg2;have hB2:=(hB1.alloc _).grown hg2 (own_ne hL1 hB1 ht);have e0:=hB2.cell 0;have e1:=hB2.cell 1;have fB2:=hB2.frozen;simp at e0 e1));go_ret2;have hb1:base<=w1.heap.size:=by have:=hg1.size;omega
  refine⟨rfl,.map (some r),.slice (some ⟨g,0,none⟩) (xs.length+1) cap2,hB2.setCell 1 _,⟨?_,.inr ⟨r,_,rfl,hr,?_,hD.put k hkx⟩⟩,?_⟩
  ·simpa using own_set hL2 ⟨sb,1,none⟩ _ (own_ne hL2 hB2 ht)
  ·have h2:=(hown1.alloc _).kept hg2 (Ne.symm hlr);simpa using map_kept h2 (Kept.setCell (b:=sb) w2 (p:=⟨sb,1,none⟩) rfl _) hsr.symm
  ·refine(KeptX.map hg1 hown hr).trans ((KeptX.kept (Kept.alloc sb w1 _) hb1).trans ((KeptX.grown hg2 (hL1.alloc _) (Nat.le_refl _) (by simp;omega) (by simp)).trans (KeptX.kept (Kept.setCell (b:=sb) w2 (p:=⟨sb,1,none⟩) rfl _) ?_)));have:=hg2.size;simp at this;omega
end
section
attribute [local go_sem] drewN_alloc drewN_setCell
open Go.RowKit
def ClD.atoms(d:ClD):List (B8×List B8):=(d.name,d.ts)::d.lits.map fun l=>(l.name,l.ts)
def atomC(p:B8×List B8):List Value:=atomCells p.1 p.2
theorem infoAtom:(prog.info? 54).map (fun i=>(i.zero,i.size,i.bytes))=some (some (.agg #[.string ⟨#[]⟩,.int .i64 0,.string ⟨#[]⟩,.string ⟨#[]⟩,.string ⟨#[]⟩]),5,72):=by kernel_rfl
theorem own_at{w:World}{base:Nat}{e:TypeId}{ao:Option Addr}{n cap size:Nat}{rows:List (List Value)}(h:w.ownsRow base e size (.slice ao n cap) n rows.flatten)(hr:∀r∈rows,r.length=size)(hl:rows.length=n)(i:Nat)(hi:i<n):
 ∃g,ao=some ⟨g,0,none⟩/\base<=g/\∀j,j<size->w.cell? ⟨g,i*size+j,none⟩=(rows.getD i [])[j]? :=by
 rcases h.2 with⟨h1,h2⟩|⟨g,cap',cur,h1,hb,_⟩
 ·omega
 ·injection h1 with h1
  refine⟨g,h1,hb,?_⟩;subst h1;intro j hj
  have key:∀(rows:List (List Value)) (i:Nat),(∀r∈rows,r.length=size)->i<rows.length->rows.flatten[i*size+j]? =(rows.getD i [])[j]? :=by
   intro rows
   induction rows with
   |nil=>intro i _ h;simp at h
   |cons r rs ih=>
    intro i hr hi;have h0:=hr r (by simp)
    cases i with
    |zero=>simp[List.getElem?_append_left (show j<r.length by omega)]
    |succ i=>rw[List.flatten_cons,List.getElem?_append_right (by rw[h0,Nat.succ_mul];omega),h0,show(i+1)*size+j-size=i*size+j by rw[Nat.succ_mul];omega];simp only[List.length_cons]at hi;rw[ih i (fun r hr'=>hr r (by simp[hr'])) (by omega)];simp
  have hk:=key rows i hr (by omega);have hlen:j<(rows.getD i []).length:=by rw[List.getD_eq_getElem?_getD,List.getElem?_eq_getElem (by omega:i<rows.length)];simp only[Option.getD_some];rw[hr _ (List.getElem_mem _)];exact hj
  rw[List.getElem?_eq_getElem hlen]at hk⊢;have:=h.cells (g:=g) rfl (i*size+j) _ hk;rw[Addr.add_lit,Nat.zero_add]at this;exact this
theorem flat_map{α:Type}(f:α->List Value)(l:List α):l.flatMap f=(l.map f).flatten:=by simp[List.flatMap]
def LitD.nm(d:LitD):ByteArray:=bs d.name
def LitD.cn(d:LitD):Int:=d.ts.length
def LitD.t(d:LitD)(i:Nat):ByteArray:=bs (d.ts.getD i [])
theorem LitD.cells_eq(d:LitD):d.cells=[.string d.nm,.int .i64 d.cn,.string (d.t 0),.string (d.t 1),.string (d.t 2),.bool d.neg]:=rfl
theorem LitD.atom_eq(d:LitD):atomC (d.name,d.ts)=[.string d.nm,.int .i64 d.cn,.string (d.t 0),.string (d.t 1),.string (d.t 2)]:=rfl
theorem lits_at{w:World}{base:Nat}{ao:Option Addr}{cap:Nat}{lits:List LitD}(h:w.ownsRow base 130 6 (.slice ao lits.length cap) lits.length (lits.flatMap LitD.cells))(i:Nat)(hi:i<lits.length):
 ∃g,ao=some ⟨g,0,none⟩/\g<w.heap.size/\w.cell? ⟨g,i*6,none⟩=some (.string lits[i].nm)/\w.cell? ⟨g,i*6+1,none⟩=some (.int .i64 lits[i].cn)/\w.cell? ⟨g,i*6+2,none⟩=some (.string (lits[i].t 0))/\
  w.cell? ⟨g,i*6+3,none⟩=some (.string (lits[i].t 1))/\w.cell? ⟨g,i*6+4,none⟩=some (.string (lits[i].t 2))/\w.cell? ⟨g,i*6+5,none⟩=some (.bool lits[i].neg):=by
 rw[flat_map]at h;obtain⟨g,rfl,hb,hc⟩:=own_at h (by intro r hr;simp at hr;obtain⟨d,_,rfl⟩:=hr;rfl) (by simp) i hi;have e:(lits.map LitD.cells).getD i []=lits[i].cells:=by simp[hi]
 rw[e,LitD.cells_eq]at hc;exact⟨g,rfl,(h.lt g rfl).2,hc 0 (by decide),hc 1 (by decide),hc 2 (by decide),hc 3 (by decide),hc 4 (by decide),hc 5 (by decide)⟩
theorem atoms_c(w:World)(base:Nat)(n0 t0 t1 t2:ByteArray)(c:Int)(ao:Option Addr)(cap:Nat)(name:B8)(ts:List B8)(lits:List LitD)
 (hh:[Value.string n0,.int .i64 c,.string t0,.string t1,.string t2]=atomCells name ts)(hL:w.ownsRow base 130 6 (.slice ao lits.length cap) lits.length (lits.flatMap LitD.cells))(hn:lits.length<=100):
 Calls prog 51 #[.agg #[.string n0,.int .i64 c,.string t0,.string t1,.string t2,.slice ao lits.length cap]] w fun e w'=>∃g cap',e=.returned (.slice (some ⟨g,0,none⟩) (lits.length+1) cap')/\
  w'.ownsRow w.heap.size 54 5 (.slice (some ⟨g,0,none⟩) (lits.length+1) cap') (lits.length+1) (((name,ts)::lits.map fun l=>(l.name,l.ts)).flatMap atomC)/\Below w.heap.size w w':=by
 have HH:=hid hh;clear hh;obtain⟨i1,hi1,hy0,hy1,hy2⟩:=info_parts infoAtom;go_enter func51,ntmps51;go_wp2
 go_loopw [3,12] (fun v i wr=>∃(k g cap':Nat),k<=lits.length/\i=.int .i64 k/\v=.slice (some ⟨g,0,none⟩) (k+1) cap'/\
  wr.ownsRow w.heap.size 54 5 (.slice (some ⟨g,0,none⟩) (k+1) cap') (k+1) (((name,ts)::(lits.take k).map fun l=>(l.name,l.ts)).flatMap atomC)/\Below w.heap.size w wr) (fun _ i _=>lits.length-(intOf i).toNat)
 case atStart=>refine⟨0,w.heap.size+1,1,by omega,rfl,rfl,?_,((Below.refl _ _).alloc (Nat.le_refl _) _).alloc (by simp) _⟩;have h:=own_one (base:=w.heap.size) (new_two w (.cells #[Value.string n0,.int .i64 c,.string t0,.string t1,.string t2,.slice ao lits.length cap] 60) [Value.string n0,.int .i64 c,.string t0,.string t1,.string t2] 54) rfl (by omega);simp only[List.take_zero,List.map_nil,List.flatMap_cons,List.flatMap_nil,List.append_nil,atomC];rw[<-HH.out];exact h
 case round=>
  obtain⟨k,g,cap',hk,rfl,rfl,hA,hB⟩:=hrel;by_cases hlt:k<lits.length
  ·obtain⟨g0,rfl,hg0,e0,e1,e2,e3,e4,e5⟩:=lits_at hL k hlt;generalize hlk:lits[k]=L at*;have HLK:=hid hlk;clear hlk;rw[<-hB.cell (p:=⟨g0,k*6,none⟩) hg0]at e0;rw[<-hB.cell (p:=⟨g0,k*6+1,none⟩) hg0]at e1;rw[<-hB.cell (p:=⟨g0,k*6+2,none⟩) hg0]at e2;rw[<-hB.cell (p:=⟨g0,k*6+3,none⟩) hg0]at e3;rw[<-hB.cell (p:=⟨g0,k*6+4,none⟩) hg0]at e4;rw[<-hB.cell (p:=⟨g0,k*6+5,none⟩) hg0]at e5;have hbw:w.heap.size<=wr.heap.size:=hB.size;have HT:Hid (((name,ts)::(lits.take k).map fun l=>(l.name,l.ts)).flatMap atomC++[.string L.nm,.int .i64 L.cn,.string (L.t 0),.string (L.t 1),.string (L.t 2)]=((name,ts)::(lits.take (k+1)).map fun l=>(l.name,l.ts)).flatMap atomC):=by show _=_;rw[List.take_succ_eq_append_getElem hlt,HLK.out,<-LitD.atom_eq];simp[List.flatMap_append]
   go_wp2_with (at_builtin;refine wpList_append_ownS _ rfl _ _ 89 rfl w.heap.size 54 i1 _ 5 72 underlying89 hi1 hy0 hy1 hy2 rfl (by decide) _ (k+1) _ rfl ((hA.alloc _).alloc _) ⟨wr.heap.size+1,0,none⟩ 1 [.string L.nm,.int .i64 L.cn,.string (L.t 0),.string (L.t 1),.string (L.t 2)] rfl rfl (new_cells2 _ _ _ _) (by intro u hu;simp at hu;rcases hu with rfl|rfl|rfl|rfl|rfl<;>rfl) (by unfold maxLen;omega) (by omega) (by simp;omega) ?_;intro g3 cap3 w3 ho3 hg3);rw[HT.out]at ho3;have hB3:=((hB.alloc hbw _).alloc (by simp;omega) _).grown hg3 (by simp;omega) (own_base hA);exact⟨⟨k+1,g3,cap3,hlt,by go_num,rfl,ho3,hB3⟩,by simp[intOf];omega⟩
  ·have hke:k=lits.length:=by omega
   go_wp2
   go_ret
   subst hke;rw[List.take_length]at hA;exact⟨g,cap',rfl,hA,hB⟩
end
section
attribute [local go_sem] drewN_alloc drewN_setCell
open Go.RowKit Go.WideMaps Go.Maps
def CountsIs(w:World)(base:Nat)(mv lv cv:Value)(xs:List B8)(ns:List Nat):Prop:=
 SetIs w base mv lv xs/\ns.length=xs.length/\w.ownsRow base 3 1 cv xs.length (ns.map fun n=>.int .i64 (n:Nat))
theorem infoInt:(prog.info? 3).map (fun i=>(i.zero,i.size,i.bytes))=some (some (.int .i64 0),1,8):=by kernel_rfl
theorem SetIs.keptX{base sb:Nat}{w w':World}{mv lv:Value}{xs:List B8}(h:SetIs w base mv lv xs)(hk:Kept sb w w'){cs:List Value}{t:TypeId}(hb:Blk w sb cs t)(ht:t≠9):SetIs w' base mv lv xs:=by
 refine⟨own_kept h.1 hk (own_ne h.1 hb ht),?_⟩;rcases h.2 with h2|⟨r,D,hm,hr,ho,hD⟩
 ·exact .inl h2
 ·exact .inr ⟨r,D,hm,hr,map_kept ho hk (map_ne ho hb).symm,hD⟩
theorem SetIs.alloc{base:Nat}{w:World}{mv lv:Value}{xs:List B8}(h:SetIs w base mv lv xs)(o:Obj):SetIs (w.alloc o) base mv lv xs:=by
 refine⟨h.1.alloc o,?_⟩;rcases h.2 with h2|⟨r,D,hm,hr,ho,hD⟩
 ·exact .inl h2
 ·exact .inr ⟨r,D,hm,hr,ho.alloc o,hD⟩
theorem SetIs.drew{base:Nat}{w:World}{mv lv:Value}{xs:List B8}(h:SetIs w base mv lv xs):SetIs w.drew base mv lv xs:=h
theorem SetIs.drewN{base:Nat}{w:World}{mv lv:Value}{xs:List B8}(h:SetIs w base mv lv xs)(n:Nat):SetIs (w.drewN n) base mv lv xs:=h
theorem SetIs.grown{base:Nat}{w w':World}{mv lv:Value}{xs:List B8}(h:SetIs w base mv lv xs){base':Nat}{e:TypeId}{size:Nat}{v:Value}{n:Nat}{ys:List Value}(hg:w.grownBy w' v.ownBlock)(ho:w.ownsRow base' e size v n ys)(he:e≠9):SetIs w' base mv lv xs:=by
 refine⟨h.1.kept hg (own_ne2 h.1 ho (Ne.symm he)),?_⟩;rcases h.2 with h2|⟨r,D,hm,hr,hw,hD⟩
 ·exact .inl h2
 ·exact .inr ⟨r,D,hm,hr,hw.kept hg (Ne.symm (map_row hw ho)),hD⟩
theorem posIn_lt(xs:List B8)(k:B8)(h:hasW xs k=true):posIn xs k<xs.length:=by
 have hk:k∈xs:=by simpa[hasW]using h
 simp only[posIn,hk,if_pos];exact List.idxOf_lt_length_of_mem hk
def nAt(ns:List Nat)(i:Nat):Int:=(ns.getD i 0:Nat)
theorem fits_old(w:World)(base sb:Nat)(mv lv cv:Value)(xs:List B8)(ns:List Nat)(k:B8)(c:Int)(t0 t1 t2:ByteArray)(hB:Blk w sb [mv,lv,cv] 164)(hC:CountsIs w base mv lv cv xs ns)(hk:k.length<=maxLen)(hx:hasW xs k=true):
 Calls prog 56 #[.pointer (some ⟨sb,0,none⟩),.agg #[.string (bs k),.int .i64 c,.string t0,.string t1,.string t2]] w fun e w'=>e=.returned (.bool (nAt ns (posIn xs k)==c))/\
  Below w.heap.size w w':=by
 obtain⟨hS,hl,hN⟩:=hC;have hp:=posIn_lt xs k hx;obtain⟨ao,cap,rfl⟩:=own_form hN;obtain⟨g,rfl,hg⟩:=own_cell hN _ hp;have hgg:w.cell? ⟨g,posIn xs k,none⟩=some (.int .i64 (nAt ns (posIn xs k))):=by rw[hg];simp[nAt,hl,hp]
 have hgl:g<w.heap.size:=(hN.lt g rfl).2;have hbl:=hB.lt;have c2:w.cell? ⟨sb,2,none⟩=some (.slice (some ⟨g,0,none⟩) xs.length cap):=hB.cell 2;clear hg;have hL:=hid hl;clear hl;obtain⟨p,HP⟩:∃p:Nat,Hid (p=posIn xs k):=⟨_,rfl⟩;rw[<-HP.out]at hgg hp⊢;go_enter func56,ntmps56;go_wp2
 go_region_with (go_at_call 52;refine(add_old _ base sb mv lv [_] 164 xs k (by exact(hB.alloc _).drew) (by exact(hS.alloc _).drew) hk hx).mono ?_;rintro e w1 ⟨he,rfl⟩;rw[<-HP.out]at he;subst he)
 all_goals go_wp2
 all_goals go_quiet (fail)
 all_goals go_wp2
 all_goals go_ret
 all_goals exact⟨rfl,below_drewN (((Below.refl _ w).alloc (Nat.le_refl _) _).drew) _⟩
theorem fits_new(w:World)(base sb:Nat)(mv lv cv:Value)(xs:List B8)(ns:List Nat)(k:B8)(c:Nat)(t0 t1 t2:ByteArray)(hB:Blk w sb [mv,lv,cv] 164)(hC:CountsIs w base mv lv cv xs ns)(hk:k.length<=maxLen)(hx:hasW xs k=false)(hn:xs.length<=100000)(hbw:base<=w.heap.size):
 Calls prog 56 #[.pointer (some ⟨sb,0,none⟩),.agg #[.string (bs k),.int .i64 c,.string t0,.string t1,.string t2]] w fun e w'=>e=.returned (.bool true)/\
  ∃mv' lv' cv',Blk w' sb [mv',lv',cv'] 164/\CountsIs w' base mv' lv' cv' (xs++[k]) (ns++[c])/\KeptX base sb [9,3] w w':=by
 obtain⟨hS,hl,hN⟩:=hC;obtain⟨ao,cap,rfl⟩:=own_form hN;obtain⟨i1,hi1,hy0,hy1,hy2⟩:=info_parts infoInt;have hbl:=hB.lt;have HL:=hid hl;clear hl;go_enter func56,ntmps56;go_wp2
 go_cut [5,6] from 7 to 37 (fun p q wx=>p=.int .i64 xs.length/\q=.bool true/\∃mv' lv',Blk wx sb [mv',lv',.slice ao xs.length cap] 164/\SetIs wx base mv' lv' (xs++[k])/\wx.ownsRow base 3 1 (.slice ao xs.length cap) xs.length (ns.map fun n=>.int .i64 (n:Nat))/\
  Blk wx w.heap.size [.string (bs k),.int .i64 c,.string t0,.string t1,.string t2] 54/\KeptX base sb [9,3] w wx)
 case first=>
  go_region_with (go_at_call 52;refine(add_new _ base sb mv lv [_] 164 xs k (by exact(hB.alloc _).drew) (by exact(hS.alloc _).drew) hk hx hn (by decide) (by simp;omega)).mono ?_;rintro e w1 ⟨rfl,mv',lv',hB1,hS1,hX1⟩)
  all_goals go_wp2_with fail
  all_goals go_meet
  all_goals
   have hbx:=hX1.ty w.heap.size [.string (bs k),.int .i64 c,.string t0,.string t1,.string t2] 54 (by omega) (by decide) (Blk.drew (Blk.new w _ _));have hNx:=hX1.own ((hN.alloc _).drew) (own_ne hN hB (by decide)) (by decide);have hXw:KeptX base sb [9,3] w w1:=(KeptX.kept (((Kept.refl sb w).allocs _).drewn) hbw).trans ⟨hX1.os,hX1.tape,hX1.output,hX1.size,hX1.low,fun i cs t a b d=>hX1.ty i cs t a (by simp at b⊢;exact b.1) d⟩;exact⟨rfl,rfl,mv',lv',hB1,hS1,hNx,hbx,hXw⟩
 case rest=>
  obtain⟨rfl,rfl,mv',lv',hB1,hS1,hN1,hbx,hX1⟩:=hcut;have c2:wc.cell? ⟨sb,2,none⟩=some (.slice ao xs.length cap):=hB1.cell 2;have fB:=hB1.frozen;have x1:wc.cell? ⟨w.heap.size,1,none⟩=some (.int .i64 c):=hbx.cell 1;have hsw:sb<wc.heap.size:=hB1.lt;have hxw:w.heap.size<wc.heap.size:=hbx.lt;have hown:∀o3,((wc.alloc o3).drew).ownsRow base 3 1 (.slice ao xs.length cap) xs.length (ns.map fun n=>.int .i64 (n:Nat)):=fun o3=>hN1.alloc o3;have hnews:∀j u,[Value.int .i64 c][j]? =some u->((wc.alloc (.cells #[Value.int .i64 c] 3)).drew).cell? ((⟨wc.heap.size,0,none⟩:Addr).add j)=some u:=fun j u h=>new_cells wc [Value.int .i64 c] 3 j u h;have hone:∀u∈[Value.int .i64 (c:Nat)],u.oneCell'=true:=by intro u hu;simp at hu;subst hu;rfl
  have hpm:xs.length+1<=maxLen:=by unfold maxLen;omega
  have hpb:(xs.length+1)*8<=140737488355328:=by omega
  have hBB:∀o3,base<=((wc.alloc o3).drew).heap.size:=by intro o3;have:=hX1.size;simp;omega
  have hne1:=own_ne hN1 hB1 (by decide);have hne2:=own_ne hN1 hbx (by decide);go_wp2_with fail
  go_cut [] from 7 to 37 (fun wx=>∃g2 cap2,Blk wx sb [mv',lv',.slice (some ⟨g2,0,none⟩) (xs.length+1) cap2] 164/\SetIs wx base mv' lv' (xs++[k])/\wx.ownsRow base 3 1 (.slice (some ⟨g2,0,none⟩) (xs.length+1) cap2) (xs.length+1) ((ns.map fun n=>.int .i64 (n:Nat))++[.int .i64 c])/\
   Blk wx w.heap.size [.string (bs k),.int .i64 c,.string t0,.string t1,.string t2] 54/\KeptX base sb [9,3] w wx)
  case first=>
   go_region_law (refine step_append_own rfl (.tmp 21) (.tmp 24) 22 rfl base 3 i1 _ 1 8 underlying22 hi1 hy0 hy1 hy2 rfl (by decide) (.slice ao xs.length cap) xs.length (ns.map fun n=>.int .i64 (n:Nat)) (by simp[Act.eval]) (hown _) ⟨wc.heap.size,0,none⟩ 1 1 [.int .i64 c] (by simp[Act.eval]) (by decide) rfl hnews hone hpm hpb (hBB _) ?_;intro g2 cap2 w3 hN3 hg3;have hB3:=(hB1.alloc _).drew.grown hg3 hne1;have d2:=hB3.cell 2;have fB3:=hB3.frozen;simp at d2;have hx3:=(hbx.alloc _).drew.grown hg3 hne2;have hS3:=(hS1.alloc _).drew.grown hg3 (hown _) (by decide);have hX3:=(hX1.trans (KeptX.kept (((Kept.refl sb wc).allocs _).drewn) (by have:=hX1.size;omega))).trans (KeptX.grown hg3 (hown _) (Nat.le_refl _) (hBB _) (by decide)))
   all_goals go_wp2_with fail
   all_goals go_meet
   all_goals
    exact⟨g2,cap2,hB3.setCell 2 _,hS3.keptX (Kept.setCell (b:=sb) w3 (p:=⟨sb,2,none⟩) rfl _) hB3 (by decide),own_set hN3 ⟨sb,2,none⟩ _ (own_ne hN3 hB3 (by decide)),hx3.setOther ⟨sb,2,none⟩ _ (by simp only[ne_eq];omega),hX3.trans (KeptX.kept (Kept.setCell (b:=sb) w3 (p:=⟨sb,2,none⟩) rfl _) (by have:=hX3.size;omega))⟩
  case rest=>
   clear c2 fB x1 hown hnews hone hBB hne1 hne2 hB1 hS1 hN1 hbx hX1 hsw hxw;obtain⟨g2,cap2,hB1,hS1,hN1,hbx,hX1⟩:=hcut;have c2:wc.cell? ⟨sb,2,none⟩=some (.slice (some ⟨g2,0,none⟩) (xs.length+1) cap2):=hB1.cell 2;have x1:wc.cell? ⟨w.heap.size,1,none⟩=some (.int .i64 c):=hbx.cell 1;have hgg:wc.cell? ⟨g2,xs.length,none⟩=some (.int .i64 c):=by obtain⟨g3,h3,h4⟩:=own_cell hN1 xs.length (by omega);simp at h3;subst h3;rw[h4];simp[HL.out]
   go_wp2_with fail
   go_quiet (fail)
   go_wp2
   go_ret
   refine⟨by simp,mv',lv',_,hB1,⟨hS1,by simp[HL.out],by rw[List.length_append,List.map_append];exact hN1⟩,hX1.trans (KeptX.kept (Kept.drewN sb wc _) (by have:=hX1.size;omega))⟩
structure ClD.WF(d:ClD):Prop where
 spots:d.spots.length=d.lits.length+1
 lits:d.lits.length<=4
 words:∀a∈d.atoms,a.1.length<=12/\a.2.length<=3/\∀t∈a.2,t.length<=12
 places:∀p∈d.spots,p.ps.length<=3
def ClD.nm(d:ClD):ByteArray:=bs d.name
def ClD.cn(d:ClD):Int:=d.ts.length
def ClD.t(d:ClD)(i:Nat):ByteArray:=bs (d.ts.getD i [])
theorem placed_at{w:World}{base:Nat}{ao:Option Addr}{cap:Nat}{ds:List ClD}(h:ProgIs w base (.slice ao ds.length cap) ds)(i:Nat)(hi:i<ds.length):
 ∃g bo bcap so scap,ao=some ⟨g,0,none⟩/\g<w.heap.size/\w.cell? ⟨g,i*7,none⟩=some (.string ds[i].nm)/\w.cell? ⟨g,i*7+1,none⟩=some (.int .i64 ds[i].cn)/\w.cell? ⟨g,i*7+2,none⟩=some (.string (ds[i].t 0))/\
  w.cell? ⟨g,i*7+3,none⟩=some (.string (ds[i].t 1))/\w.cell? ⟨g,i*7+4,none⟩=some (.string (ds[i].t 2))/\w.cell? ⟨g,i*7+5,none⟩=some (.slice bo ds[i].lits.length bcap)/\w.cell? ⟨g,i*7+6,none⟩=some (.slice so ds[i].spots.length scap)/\
  w.ownsRow base 130 6 (.slice bo ds[i].lits.length bcap) ds[i].lits.length (ds[i].lits.flatMap LitD.cells)/\w.ownsRow base 82 5 (.slice so ds[i].spots.length scap) ds[i].spots.length (ds[i].spots.flatMap SpotD.cells):=by
 obtain⟨rows,ho,hl,hr⟩:=h;have hall:∀r∈rows,r.length=7:=by intro r hr';obtain⟨j,hj,rfl⟩:=List.getElem_of_mem hr';obtain⟨bv,sv,hc,_⟩:=hr j ds[j] rows[j] (by simp) (by simp);rw[hc];rfl
 obtain⟨g,rfl,hb,hc⟩:=own_at ho hall hl i hi;obtain⟨bv,sv,hcs,hbv,hsv⟩:=hr i ds[i] rows[i] (by simp) (by simp);have e:rows.getD i []=rows[i]:=by simp[show i<rows.length by omega]
 rw[e,hcs]at hc;obtain⟨bo,bcap,rfl⟩:=own_form hbv;obtain⟨so,scap,rfl⟩:=own_form hsv;exact⟨g,bo,bcap,so,scap,rfl,(ho.lt g rfl).2,hc 0 (by decide),hc 1 (by decide),hc 2 (by decide),hc 3 (by decide),hc 4 (by decide),hc 5 (by decide),hc 6 (by decide),hbv,hsv⟩
def atN(a:B8×List B8):ByteArray:=bs a.1
def atC(a:B8×List B8):Int:=a.2.length
def atT(a:B8×List B8)(i:Nat):ByteArray:=bs (a.2.getD i [])
theorem atom_at{w:World}{base:Nat}{g n cap:Nat}{ats:List (B8×List B8)}(h:w.ownsRow base 54 5 (.slice (some ⟨g,0,none⟩) n cap) n (ats.flatMap atomC))(hn:ats.length=n)(i:Nat)(hi:i<ats.length):
 w.cell? ⟨g,i*5,none⟩=some (.string (atN ats[i]))/\w.cell? ⟨g,i*5+1,none⟩=some (.int .i64 (atC ats[i]))/\w.cell? ⟨g,i*5+2,none⟩=some (.string (atT ats[i] 0))/\w.cell? ⟨g,i*5+3,none⟩=some (.string (atT ats[i] 1))/\w.cell? ⟨g,i*5+4,none⟩=some (.string (atT ats[i] 2)):=by
 rw[flat_map]at h;obtain⟨g',hg,hb,hc⟩:=own_at h (by intro r hr;simp at hr;obtain⟨a,b,_,rfl⟩:=hr;rfl) (by simp[hn]) i (by omega);simp at hg;subst hg;have e:(ats.map atomC).getD i []=atomC ats[i]:=by simp[hi]
 rw[e]at hc;exact⟨hc 0 (by decide),hc 1 (by decide),hc 2 (by decide),hc 3 (by decide),hc 4 (by decide)⟩
theorem spot_at{w:World}{base:Nat}{so:Option Addr}{cap:Nat}{sp:List SpotD}(h:w.ownsRow base 82 5 (.slice so sp.length cap) sp.length (sp.flatMap SpotD.cells))(i:Nat)(hi:i<sp.length):
 ∃g,so=some ⟨g,0,none⟩/\g<w.heap.size/\w.cell? ⟨g,i*5,none⟩=some (.int .i64 (sp[i].mark:Nat))/\w.cell? ⟨g,i*5+1,none⟩=some (.int .i64 (sp[i].np:Nat))/\w.cell? ⟨g,i*5+2,none⟩=some (.int .i64 (sp[i].ps.getD 0 0:Nat))/\
  w.cell? ⟨g,i*5+3,none⟩=some (.int .i64 (sp[i].ps.getD 1 0:Nat))/\w.cell? ⟨g,i*5+4,none⟩=some (.int .i64 (sp[i].ps.getD 2 0:Nat)):=by
 rw[flat_map]at h;obtain⟨g,rfl,hb,hc⟩:=own_at h (by intro r hr;simp at hr;obtain⟨a,_,rfl⟩:=hr;rfl) (by simp) i hi;have e:(sp.map SpotD.cells).getD i []=sp[i].cells:=by simp[hi]
 rw[e]at hc;exact⟨g,rfl,(h.lt g rfl).2,hc 0 (by decide),hc 1 (by decide),hc 2 (by decide),hc 3 (by decide),hc 4 (by decide)⟩
def ClD.items(d:ClD):List (B8×Nat×Nat):=(d.atoms.zip d.spots).map fun x=>(x.1.1,x.1.2.length,x.2.np)
def arityGo:List B8->List Nat->List (B8×Nat×Nat)->Option Nat
 |_,_,[]=>none
 |xs,ns,(k,n,p)::r=>if hasW xs k=true then(if ns.getD (posIn xs k) 0=n then arityGo xs ns r else some p) else arityGo (xs++[k]) (ns++[n]) r
def arityR(ds:List ClD):Option Nat:=arityGo [] [] (ds.flatMap ClD.items)
def foundV:Option Nat->Value
 |some p=>.tuple #[.int .i64 (p:Nat),.bool true]
 |none=>.tuple #[.int .i64 0,.bool false]
theorem items_len(d:ClD)(h:d.WF):d.items.length=d.lits.length+1:=by simp[ClD.items,ClD.atoms,h.spots]
theorem items_at(d:ClD)(h:d.WF)(j:Nat)(hj:j<d.lits.length+1):d.items[j]'(by rw[items_len d h];exact hj)=((d.atoms[j]'(by simp[ClD.atoms];exact hj)).1,(d.atoms[j]'(by simp[ClD.atoms];exact hj)).2.length,(d.spots[j]'(by rw[h.spots];exact hj)).np):=by simp[ClD.items]
theorem own_below{w w':World}{base:Nat}{e:TypeId}{size:Nat}{v:Value}{n:Nat}{xs:List Value}(h:w.ownsRow base e size v n xs)(hb:Below w.heap.size w w'):w'.ownsRow base e size v n xs:=
 h.kept (row:=none) ⟨hb.os,hb.tape,hb.output,hb.size,fun k hk _=>hb.block k hk⟩ (by cases v.ownBlock<;>simp)
theorem map_below{w w':World}{P:Program}{k:TypeId}{R:Value->Option (DataW Unit×List MemPlace)}{r n:Nat}{D:DataW Unit}(h:w.ownsMap P k R r n D)(hb:Below w.heap.size w w'):w'.ownsMap P k R r n D:=
 h.kept (row:=none) ⟨hb.os,hb.tape,hb.output,hb.size,fun i hi _=>hb.block i hi⟩ (by simp)
theorem SetIs.below{base:Nat}{w w':World}{mv lv:Value}{xs:List B8}(h:SetIs w base mv lv xs)(hb:Below w.heap.size w w'):SetIs w' base mv lv xs:=by
 refine⟨own_below h.1 hb,?_⟩;rcases h.2 with h2|⟨r,D,hm,hr,ho,hD⟩
 ·exact .inl h2
 ·exact .inr ⟨r,D,hm,hr,map_below ho hb,hD⟩
theorem CountsIs.below{base:Nat}{w w':World}{mv lv cv:Value}{xs:List B8}{ns:List Nat}(h:CountsIs w base mv lv cv xs ns)(hb:Below w.heap.size w w'):CountsIs w' base mv lv cv xs ns:=⟨h.1.below hb,h.2.1,own_below h.2.2 hb⟩
theorem below_alloc(w:World)(o:Obj):Below w.heap.size w (w.alloc o):=(Below.refl _ w).alloc (Nat.le_refl _) o
theorem KeptX.toBelow{base sb:Nat}{T:List TypeId}{w w':World}(h:KeptX base sb T w w')(hs:base<=sb):Below base w w':=⟨h.os,h.tape,h.output,h.size,fun k hk=>h.low k hk (by omega)⟩
def zC:List Value:=[.map none,.slice none 0 0,.slice none 0 0]
theorem arity_c(w:World)(base:Nat)(ao:Option Addr)(cap:Nat)(ds:List ClD)(hP:ProgIs w base (.slice ao ds.length cap) ds)(hW:∀d∈ds,d.WF)(hn:ds.length<=40):
 Calls prog 48 #[.slice ao ds.length cap] w fun e w'=>e=.returned (foundV (arityR ds))/\Below w.heap.size w w':=by
 go_enter func48,ntmps48;go_wp2
 go_loopw [11] (fun i wr=>∃(k:Nat) (xs:List B8) (ns:List Nat) (mv lv cv:Value),k<=ds.length/\i=.int .i64 k/\xs.length<=5*k/\Hid (arityGo xs ns ((ds.drop k).flatMap ClD.items)=arityR ds)/\
  Blk wr w.heap.size [mv,lv,cv] 164/\CountsIs wr w.heap.size mv lv cv xs ns/\Below w.heap.size w wr) (fun i _=>ds.length-(intOf i).toNat)
 case atStart=>exact⟨0,[],[],.map none,.slice none 0 0,.slice none 0 0,by omega,rfl,by simp,rfl,Blk.new w zC 164,⟨⟨World.ownsRow_nil _ _ _ _,.inl ⟨rfl,rfl⟩⟩,rfl,World.ownsRow_nil _ _ _ _⟩,(Below.refl _ _).alloc (Nat.le_refl _) _⟩
 case round=>
  obtain⟨k,xs,ns,mv,lv,cv,hk,rfl,hxl,HX,hC,hCI,hB⟩:=hrel;by_cases hlt:k<ds.length
  ·obtain⟨g,bo,bcap,so,scap,rfl,hg,e0,e1,e2,e3,e4,e5,e6,hLb,hSp⟩:=placed_at hP k hlt;have hwf:=hW ds[k] (List.getElem_mem hlt);have HD:Hid ((ds.drop k).flatMap ClD.items=ds[k].items++(ds.drop (k+1)).flatMap ClD.items):=by show(ds.drop k).flatMap ClD.items=_;rw[List.drop_eq_getElem_cons hlt];rfl
   generalize hdk:ds[k]=d at*;have HDK:=hid hdk;clear hdk;have hbw:w.heap.size<wr.heap.size:=hC.lt;have hl4:=hwf.lits;have HSL:=hid hwf.spots;rw[<-hB.cell (p:=⟨g,k*7,none⟩) hg]at e0;rw[<-hB.cell (p:=⟨g,k*7+1,none⟩) hg]at e1;rw[<-hB.cell (p:=⟨g,k*7+2,none⟩) hg]at e2;rw[<-hB.cell (p:=⟨g,k*7+3,none⟩) hg]at e3;rw[<-hB.cell (p:=⟨g,k*7+4,none⟩) hg]at e4;rw[<-hB.cell (p:=⟨g,k*7+5,none⟩) hg]at e5;rw[<-hB.cell (p:=⟨g,k*7+6,none⟩) hg]at e6;have hBr:Below wr.heap.size wr (wr.alloc (.cells #[Value.string d.nm,.int .i64 d.cn,.string (d.t 0),.string (d.t 1),.string (d.t 2),.slice bo d.lits.length bcap,.slice so d.spots.length scap] 124)):=below_alloc _ _;have hbx0:=Blk.new wr [Value.string d.nm,.int .i64 d.cn,.string (d.t 0),.string (d.t 1),.string (d.t 2),.slice bo d.lits.length bcap,.slice so d.spots.length scap] 124;go_wp2_with (go_at_call 51;refine(atoms_c _ base d.nm (d.t 0) (d.t 1) (d.t 2) d.cn bo bcap d.name d.ts d.lits rfl (by exact(own_below hLb hB).alloc _) (by omega)).mono ?_;rintro e w1 ⟨ga,capa,rfl,hA1,hB1⟩);clear e0 e1 e2 e3 e4 e5 e6;have hC1:=(hC.alloc _).below hB1;have hCI1:=(hCI.below hBr).below hB1;have hbx1:=hbx0.below hB1;have hBw1:Below w.heap.size w w1:=(hB.alloc (by omega) _).trans (hB1.mono (by simp;omega));clear hBr hbx0 hC hCI hB hB1;simp only[World.size_alloc]at hA1;generalize wr.heap.size=R at*
   go_loopw [19] (fun jv wr=>∃(j:Nat) (xs:List B8) (ns:List Nat) (mv lv cv:Value),j<=d.lits.length+1/\jv=.int .i64 j/\xs.length<=5*k+j/\Hid (arityGo xs ns (d.items.drop j++(ds.drop (k+1)).flatMap ClD.items)=arityR ds)/\
    Blk wr w.heap.size [mv,lv,cv] 164/\CountsIs wr w.heap.size mv lv cv xs ns/\Blk wr R [.string d.nm,.int .i64 d.cn,.string (d.t 0),.string (d.t 1),.string (d.t 2),.slice bo d.lits.length bcap,.slice so d.spots.length scap] 124/\
    wr.ownsRow (R+1) 54 5 (.slice (some ⟨ga,0,none⟩) (d.lits.length+1) capa) (d.lits.length+1) (d.atoms.flatMap atomC)/\Below w.heap.size w wr) (fun jv _=>d.lits.length+1-(intOf jv).toNat)
   case atStart=>
    refine⟨0,xs,ns,mv,lv,cv,by omega,rfl,by omega,?_,hC1,hCI1,hbx1,?_,hBw1⟩
    ·show arityGo xs ns (d.items.drop 0++_)=arityR ds;rw[<-HX.out,HD.out];rfl
    ·exact hA1
   case round=>
    clear hC1 hCI1 hbx1 hBw1 hA1 HX hxl;obtain⟨j,xs,ns,mv,lv,cv,hj,rfl,hxl,HX,hC,hCI,hbx,hA,hB⟩:=hrel;have hbw1:w.heap.size<wr.heap.size:=hC.lt;have hbw2:R<wr.heap.size:=hbx.lt;have hal:d.atoms.length=d.lits.length+1:=by simp[ClD.atoms]
    by_cases hjl:j<d.lits.length+1
    ·obtain⟨a0,a1,a2,a3,a4⟩:=atom_at hA hal j (by omega);have hitem:=items_at d hwf j hjl;have hdrop:=List.drop_eq_getElem_cons (show j<d.items.length by rw[items_len d hwf];exact hjl);rw[hitem]at hdrop;have hkl:=(hwf.words _ (List.getElem_mem (show j<d.atoms.length by omega))).1;obtain⟨a,ha⟩:∃a,d.atoms[j]=a:=⟨_,rfl⟩;obtain⟨q,hq⟩:∃q:Nat,(d.spots[j]'(by rw[hwf.spots];exact hjl)).np=q:=⟨_,rfl⟩;simp only[ha]at a0 a1 a2 a3 a4 hdrop hkl;rw[hq]at hdrop;have HQ:=hid hq;have HDR:=hid hdrop;clear ha hq hdrop hitem;obtain⟨nm,ts⟩:=a;have a0':wr.cell? ⟨ga,j*5,none⟩=some (.string (bs nm)):=a0;have a1':wr.cell? ⟨ga,j*5+1,none⟩=some (.int .i64 (ts.length:Nat)):=a1;clear a0 a1;have hkm:nm.length<=maxLen:=by unfold maxLen;simp only[]at hkl;omega
     have hbe:Below wr.heap.size wr (wr.alloc (.cells #[Value.string (bs nm),.int .i64 (ts.length:Nat),.string (atT (nm,ts) 0),.string (atT (nm,ts) 1),.string (atT (nm,ts) 2)] 54)):=below_alloc _ _;cases hx:hasW xs nm
     ·have HN:Hid (arityGo (xs++[nm]) (ns++[ts.length]) (d.items.drop (j+1)++(ds.drop (k+1)).flatMap ClD.items)=arityR ds):=by show _=_;rw[<-HX.out,HDR.out];simp[arityGo,hx]
      go_wp2_with (go_at_call 56;refine(fits_new _ w.heap.size w.heap.size mv lv cv xs ns nm ts.length _ _ _ (by exact hC.alloc _) (by exact hCI.below hbe) hkm hx (by omega) (by simp;omega)).mono ?_;rintro e w2 ⟨rfl,mv',lv',cv',hC2,hCI2,hX2⟩);have hB2:Below w.heap.size w w2:=(hB.trans (hbe.mono (by omega))).trans (hX2.toBelow (Nat.le_refl _));exact⟨⟨j+1,xs++[nm],ns++[ts.length],mv',lv',cv',hjl,by go_num,by simp;omega,HN,hC2,hCI2,hX2.ty _ _ _ (by omega) (by decide) (hbx.alloc _),hX2.own (hA.alloc _) (own_ne hA hC (by decide)) (by decide),hB2⟩,by simp[intOf];omega⟩
     ·by_cases hnn:ns.getD (posIn xs nm) 0=ts.length
      ·have hf:(nAt ns (posIn xs nm)==(ts.length:Int))=true:=by rw[beq_iff_eq];unfold nAt;rw[hnn]
       have HN:Hid (arityGo xs ns (d.items.drop (j+1)++(ds.drop (k+1)).flatMap ClD.items)=arityR ds):=by show _=_;rw[<-HX.out,HDR.out];simp only[List.cons_append,arityGo,hx,if_true];rw[if_pos hnn]
       clear hnn;go_wp2_with (go_at_call 56;refine(fits_old _ w.heap.size w.heap.size mv lv cv xs ns nm _ _ _ _ (by exact hC.alloc _) (by exact hCI.below hbe) hkm hx).mono ?_;rintro e w2 ⟨rfl,hB2⟩);have hBB:=hbe.trans (hB2.mono (by simp));exact⟨⟨j+1,xs,ns,mv,lv,cv,hjl,by go_num,by omega,HN,hC.below hBB,hCI.below hBB,hbx.below hBB,own_below hA hBB,hB.trans (hBB.mono (by omega))⟩,by simp[intOf];omega⟩
      ·have hf:(nAt ns (posIn xs nm)==(ts.length:Int))=false:=by rw[beq_eq_false_iff_ne];unfold nAt;omega
       have HE:Hid (arityR ds=some q):=by show arityR ds=some q;rw[<-HX.out,HDR.out];simp only[List.cons_append,arityGo,hx,if_true];rw[if_neg hnn]
       clear hnn;obtain⟨gs,rfl,hgs,s0,s1,s2,s3,s4⟩:=spot_at hSp j (by rw[HSL.out];exact hjl);have hjs:j<d.spots.length:=by rw[HSL.out];exact hjl
       rw[HQ.out]at s1;go_wp2_with (go_at_call 56;refine(fits_old _ w.heap.size w.heap.size mv lv cv xs ns nm _ _ _ _ (by exact hC.alloc _) (by exact hCI.below hbe) hkm hx).mono ?_;rintro e w2 ⟨rfl,hB2⟩;have hBB:=hbe.trans (hB2.mono (by simp));have b6:=(hbx.below hBB).cell 6;simp at b6;have hBw:=hB.trans (hBB.mono (by omega));rw[<-hBw.cell (p:=⟨gs,j*5+1,none⟩) hgs]at s1);go_ret2;rw[HE.out];exact⟨rfl,hBw⟩
    ·have hje:j=d.lits.length+1:=by omega
     have HN:Hid (arityGo xs ns ((ds.drop (k+1)).flatMap ClD.items)=arityR ds):=by show _=_;rw[<-HX.out,show d.items.drop j=[] from List.drop_of_length_le (by rw[items_len d hwf];omega)];rfl
     have hj5:j<=5:=by omega
     clear hje;go_wp2;exact⟨⟨k+1,xs,ns,mv,lv,cv,hlt,by go_num,by omega,HN,hC,hCI,hB⟩,by simp[intOf];omega⟩
  ·have hke:k=ds.length:=by omega
   have HE:Hid (arityR ds=none):=by show arityR ds=none;rw[<-HX.out,hke,List.drop_length];rfl
   clear hke;go_wp2;go_ret2;rw[HE.out];exact⟨rfl,hB⟩
end
end Go.Proofs.YtpbfiffgcgnidaaGreat
