import Derived.Test.YtpbfiffgcgnidaaGreatYal
import Derived.ChangeKeysEq
import Derived.Test.YtpbfiffgcgnidaaGreatY14
import Derived.Test.YtpbfiffgcgnidaaGreatY15
namespace Go.Proofs.YtpbfiffgcgnidaaGreat
set_option maxRecDepth 100000
set_option maxHeartbeats 4000000
set_option linter.unusedSimpArgs false
open Go.Proofs.Tryz
section
attribute [local go_sem] Ai Ae
attribute [local go_sem] Ai Ae
open Go.RowKit Go.WideMaps Go.Maps
open Go.RowKit Go.WideMaps Go.Maps
end
section
attribute [local go_sem] Ai Ae
open Go.RowKit Go.WideMaps Go.Maps
def Bh(s:ByteArray):DO:=Ar s s.data.toList
theorem FX(w:World)(s:ByteArray)(hs:s.size<=2000)(hok:(Bh s).ok=true)(hend:(Ao (Bh s).rest).isEmpty=true):
 Calls prog 54 #[.string s] w fun e w'=>e=.returned (.tuple #[.agg (AW (Bh s).name (Bh s).ts).toArray,.agg (Bd 0 (Bh s).np (Bh s).ps).toArray,.int .i64 0,.bool true])/\Below w.heap.size w w':=by
 have hsm:s.size<=maxLen:=by unfold maxLen;omega
 have hRb:=Ag.new ((w.alloc (.cells zA.toArray 54)).alloc (.cells zS.toArray 82)) [.string s,.int .i64 0] 121;have hsz:((w.alloc (.cells zA.toArray 54)).alloc (.cells zS.toArray 82)).heap.size=w.heap.size+1+1:=by simp
 rw[hsz]at hRb;have hR0:Rd (((w.alloc (.cells zA.toArray 54)).alloc (.cells zS.toArray 82)).alloc (.cells #[.string s,.int .i64 0] 121)) (w.heap.size+1+1) s s.data.toList:=⟨0,by omega,by simp,hRb⟩;have hP0:=((Ag.new w zA 54).alloc (.cells zS.toArray 82)).alloc (.cells #[.string s,.int .i64 0] 121);have hQ0:=(BZ w (.cells zA.toArray 54) zS 82).alloc (.cells #[.string s,.int .i64 0] 121);have hB0:Below w.heap.size w (((w.alloc (.cells zA.toArray 54)).alloc (.cells zS.toArray 82)).alloc (.cells #[.string s,.int .i64 0] 121)):=(((Below.refl _ w).alloc (Nat.le_refl _) _).alloc (by simp) _).alloc (by simp;omega) _;clear hRb hsz;have HAL:=AJ (EX _ (w.heap.size+1+1) s s.data.toList hR0 (by omega));obtain⟨A,HA⟩:∃A,Hid (A=Bh s):=⟨_,rfl⟩;rw[<-HA.out]at hok hend⊢;have HAE:Hid (Ar s s.data.toList=A):=HA.out.symm;have HQ0:=AJ hQ0;have HP0:=AJ hP0;have HB0:=AJ hB0;clear hR0 hQ0 hP0 hB0;go_enter func54,ntmps54;go_wp2_with fail;refine(HAL.out).mono ?_;rintro e w1 ⟨he,hR1,hK1⟩;rw[HAE.out]at he hR1;rw[DO.val_eq,hok]at he;subst he;have hb1:w.heap.size+1+1<w1.heap.size:=hR1.lt;have hP1:=HP0.out.kept hK1 (by omega);have hQ1:=HQ0.out.kept hK1 (by omega);have hBw1:Below w.heap.size w w1:=HB0.out.trans (hK1.below (by omega) (by simp;omega));clear HAL HB0 HP0 HQ0;have hC1:=Df w1 [.string A.nm,.int .i64 A.cn,.string (A.t 0),.string (A.t 1),.string (A.t 2)] 54 [.int .i64 0,.int .i64 A.np',.int .i64 (A.p 0),.int .i64 (A.p 1),.int .i64 (A.p 2)] 82;have hS1:=BZ w1 (.cells #[.string A.nm,.int .i64 A.cn,.string (A.t 0),.string (A.t 1),.string (A.t 2)] 54) [.int .i64 0,.int .i64 A.np',.int .i64 (A.p 0),.int .i64 (A.p 1),.int .i64 (A.p 2)] 82;have HE1:=AJ (Fm _ (w.heap.size+1+1) s A.rest ((hR1.alloc (.cells #[.string A.nm,.int .i64 A.cn,.string (A.t 0),.string (A.t 1),.string (A.t 2)] 54)).alloc (.cells #[.int .i64 0,.int .i64 A.np',.int .i64 (A.p 0),.int .i64 (A.p 1),.int .i64 (A.p 2)] 82)) hsm);rw[hend]at HE1;have HC1:=AJ hC1;have HS1:=AJ hS1;have HP1:=AJ ((hP1.alloc (.cells #[.string A.nm,.int .i64 A.cn,.string (A.t 0),.string (A.t 1),.string (A.t 2)] 54)).alloc (.cells #[.int .i64 0,.int .i64 A.np',.int .i64 (A.p 0),.int .i64 (A.p 1),.int .i64 (A.p 2)] 82));have HQ1:=AJ ((hQ1.alloc (.cells #[.string A.nm,.int .i64 A.cn,.string (A.t 0),.string (A.t 1),.string (A.t 2)] 54)).alloc (.cells #[.int .i64 0,.int .i64 A.np',.int .i64 (A.p 0),.int .i64 (A.p 1),.int .i64 (A.p 2)] 82));have HB1:=AJ ((hBw1.alloc (by omega) (.cells #[.string A.nm,.int .i64 A.cn,.string (A.t 0),.string (A.t 1),.string (A.t 2)] 54)).alloc (by simp;omega) (.cells #[.int .i64 0,.int .i64 A.np',.int .i64 (A.p 0),.int .i64 (A.p 1),.int .i64 (A.p 2)] 82));clear hC1 hS1 hP1 hQ1 hBw1 hend hok hK1 hR1 HA HAE;go_wp2_with fail;refine(HE1.out).mono ?_;rintro e w2 ⟨rfl,hR2,hK2⟩;have hb2:w1.heap.size+1<w2.heap.size:=(HS1.out.kept hK2 (by omega)).lt;obtain⟨c0,c1,c2,c3,c4⟩:=(HC1.out.kept hK2 (by omega)).c5;obtain⟨d0,d1,d2,d3,d4⟩:=(HS1.out.kept hK2 (by omega)).c5;have hP2:=HP1.out.kept hK2 (by omega);have hQ2:=HQ1.out.kept hK2 (by omega);have fP:=hP2.frozen;have fQ:=hQ2.frozen;have HB2:=AJ (HB1.out.trans (hK2.below (by omega) (by simp;omega)));clear HE1 HC1 HS1 HP1 HQ1 HB1 hK2 hR2;obtain⟨a0,a1,a2,a3,a4⟩:=hP2.c5;obtain⟨s0,s1,s2,s3,s4⟩:=hQ2.c5;clear hP2 hQ2;have hz1:w.heap.size<w1.heap.size:=by omega
 have hz2:w.heap.size+1<w1.heap.size:=by omega
 have hz3:w.heap.size<w1.heap.size+1:=by omega
 have hz4:w.heap.size+1<w1.heap.size+1:=by omega
 go_wp2_with fail;go_region;go_wp2;refine bodyPost_ret (v:=.tuple #[.agg #[.string A.nm,.int .i64 A.cn,.string (A.t 0),.string (A.t 1),.string (A.t 2)],.agg #[.int .i64 0,.int .i64 A.np',.int .i64 (A.p 0),.int .i64 (A.p 1),.int .i64 (A.p 2)],.int .i64 0,.bool true]) (by simp[results,results54,go_sem,a0,a1,a2,a3,a4,s0,s1,s2,s3,s4]) rfl ⟨rfl,?_⟩;refine Below.drew ?_
 repeat (refine Below.setCell ?_ (by simp only[];omega) _)
 exact HB2.out
theorem MR(w:World)(base sb:Nat)(mv lv cv:Value)(xs:List B8)(ns:List Nat)(k:B8)(c:Nat)(t0 t1 t2:ByteArray)(hB:Ag w sb [mv,lv,cv] 164)(hC:B4 w base mv lv cv xs ns)(hk:k.length<=maxLen)(hn:xs.length<=100000)(hbw:base<=w.heap.size)(hbs:base<=sb)(b:Bool)
 (h:Ca xs k=true/\(MA ns (BM xs k)==(c:Int))=b\/Ca xs k=false/\true=b):
 Calls prog 56 #[.pointer (some ⟨sb,0,none⟩),.agg #[.string (bs k),.int .i64 c,.string t0,.string t1,.string t2]] w fun e w'=>e=.returned (.bool b)/\Below base w w':=by
 rcases h with⟨h,rfl⟩|⟨h,rfl⟩
 ·refine(Fj w base sb mv lv cv xs ns k c t0 t1 t2 hB hC hk h).mono ?_;rintro e w' ⟨he,hB'⟩;exact⟨he,hB'.mono hbw⟩
 ·refine(GJ w base sb mv lv cv xs ns k c t0 t1 t2 hB hC hk h hn hbw).mono ?_;rintro e w' ⟨he,-,-,-,-,-,hK⟩;exact⟨he,hK.toBelow hbs⟩
theorem Ic(w:World)(base bb:Nat)(ds:List Ap)(hI:CW w base bb ds)(hW:∀d∈ds,d.WF)(hn:ds.length<=40)(s:ByteArray)(hs:s.size<=2000)(hok:(Bh s).ok=true)(hend:(Ao (Bh s).rest).isEmpty=true)
 (b:Bool)(hf:Ca (Bi ds).1 (Bh s).name=true/\(MA (Bi ds).2 (BM (Bi ds).1 (Bh s).name)==((Bh s).ts.length:Int))=b\/Ca (Bi ds).1 (Bh s).name=false/\true=b)(hnl:(Bh s).name.length<=12):
 Calls prog 37 #[.pointer (some ⟨bb,0,none⟩),.string s] w fun e w'=>e=.returned (cond b (.tuple #[.agg (AW (Bh s).name (Bh s).ts).toArray,.agg (Bd 0 (Bh s).np (Bh s).ps).toArray,.int .i64 0,.int .i64 0]) (.tuple #[.agg zA.toArray,.agg zS.toArray,.int .i64 3,.int .i64 ((Bh s).np:Nat)]))/\Below w.heap.size w w':=by
 obtain⟨v,h1,h2⟩:=hI;obtain⟨ao,cap,rfl⟩:=h2.form;have HRQ:=AJ (fun W=>FX W s hs hok hend);have hq:¬((2000:Int)<(s.size:Int)):=by omega
 have c0:w.cell? ⟨bb,0,none⟩=some (.slice ao ds.length cap):=h1.cell 0;have hP0:=Df w zA 54 zS 82;have hQ0:=BZ w (.cells zA.toArray 54) zS 82;have hB0:Below w.heap.size w ((w.alloc (.cells zA.toArray 54)).alloc (.cells zS.toArray 82)):=((Below.refl _ w).alloc (Nat.le_refl _) _).alloc (by simp) _;have HP0:=AJ hP0;have HQ0:=AJ hQ0;have HB0:=AJ hB0;clear hP0 hQ0 hB0;obtain⟨A,HA⟩:∃A,Hid (A=Bh s):=⟨_,rfl⟩;rw[<-HA.out]at hok hend hf hnl⊢;have HV:Hid (∀W:World,Calls prog 54 #[.string s] W fun e w'=>e=.returned (.tuple #[.agg #[.string A.nm,.int .i64 A.cn,.string (A.t 0),.string (A.t 1),.string (A.t 2)],.agg #[.int .i64 0,.int .i64 A.np',.int .i64 (A.p 0),.int .i64 (A.p 1),.int .i64 (A.p 2)],.int .i64 0,.bool true])/\Below W.heap.size W w'):=by intro W;rw[HA.out];exact HRQ.out W
 have HK:=AJ hf;have hsz:=h1.lt;clear HRQ hok hend hf HA;go_enter func37,ntmps37;go_wp2_with fail;refine(HV.out _).mono ?_;rintro e w1 ⟨rfl,hB1⟩;have hP1:=HP0.out.below hB1;have hQ1:=HQ0.out.below hB1;have hBw1:Below w.heap.size w w1:=HB0.out.trans (hB1.mono (by simp;omega));have c1:w1.cell? ⟨bb,0,none⟩=some (.slice ao ds.length cap):=by rw[hBw1.cell (p:=⟨bb,0,none⟩) hsz];exact c0
 clear c0 HP0 HQ0 HB0 hB1 HV;have hC1:=Df w1 [.string A.nm,.int .i64 A.cn,.string (A.t 0),.string (A.t 1),.string (A.t 2)] 54 [.int .i64 0,.int .i64 A.np',.int .i64 (A.p 0),.int .i64 (A.p 1),.int .i64 (A.p 2)] 82;have hS1:=BZ w1 (.cells #[.string A.nm,.int .i64 A.cn,.string (A.t 0),.string (A.t 1),.string (A.t 2)] 54) [.int .i64 0,.int .i64 A.np',.int .i64 (A.p 0),.int .i64 (A.p 1),.int .i64 (A.p 2)] 82;have hBx:Below w1.heap.size w1 ((w1.alloc (.cells #[.string A.nm,.int .i64 A.cn,.string (A.t 0),.string (A.t 1),.string (A.t 2)] 54)).alloc (.cells #[.int .i64 0,.int .i64 A.np',.int .i64 (A.p 0),.int .i64 (A.p 1),.int .i64 (A.p 2)] 82)):=((Below.refl _ w1).alloc (Nat.le_refl _) _).alloc (by simp) _;have hz1:=hBw1.size;have hz2:=hQ1.lt;have hD1:=((h2.below (hBw1.mono (Nat.le_refl _))).below hBx);have hP2:=hP1.below hBx;have hQ2:=hQ1.below hBx;have HCO:=AJ (GN _ base ao cap ds hD1 hW hn);have HC1:=AJ hC1;have HS1:=AJ hS1;have HP2:=AJ hP2;have HQ2:=AJ hQ2;have HB:=AJ (hBw1.trans (hBx.mono hz1));obtain⟨q0,q1,q2,q3,q4⟩:=hC1.c5;have hsz2:bb<w1.heap.size:=by omega
 have hsz3:bb<w1.heap.size+1:=by omega
 go_wp2_with fail;clear hP1 hQ1 hP2 hQ2 hBw1 hBx h1 h2
 go_region_with (first|(go_at_call 55;refine(GN _ base ao cap ds (by exact hD1) hW hn).mono ?_;rintro e w2 ⟨mv,lv,cv,rfl,hCb,hCI,hlen,hB2⟩;obtain⟨r0,r1,r2,r3,r4⟩:=(HC1.out.drew.below hB2).c5)|(go_at_call 56;refine(MR _ (w1.heap.size+1+1) (w1.heap.size+1+1) mv lv cv (Bi ds).1 (Bi ds).2 A.name A.ts.length _ _ _ (by simpa using hCb) (by simpa using hCI) (by unfold maxLen;omega) (by omega) (by have h9:=hB2.size;simp at h9;omega) (Nat.le_refl _) b HK.out).mono ?_;rintro e w3 ⟨rfl,hB3⟩))
 all_goals
  have hB23:=hB2.trans (hB3.mono (Nat.le_of_eq (by simp)));have HB3:=AJ (HB.out.drew.trans (hB23.mono (by simp;omega)));obtain⟨c0,c1,c2,c3,c4⟩:=(HC1.out.drew.below hB23).c5;have hS3:=HS1.out.drew.below hB23;obtain⟨d0,d1,d2,d3,d4⟩:=hS3.c5;have hb3:w1.heap.size+1<w3.heap.size:=hS3.lt;have hP3:=HP2.out.drew.below hB23;have hQ3:=HQ2.out.drew.below hB23;have fP:=hP3.frozen;have fQ:=hQ3.frozen;obtain⟨a0,a1,a2,a3,a4⟩:=hP3.c5;obtain⟨s0,s1,s2,s3,s4⟩:=hQ3.c5;clear hP3 hQ3 hS3 hB23 HC1 HS1 HP2 HQ2 HB HCO r0 r1 r2 r3 r4 hB2 hB3 hCb hCI hD1 q0 q1 q2 q3 q4 hC1 hS1 HK;have hz3:w.heap.size<w1.heap.size:=by omega
  have hz4:w.heap.size+1<w1.heap.size:=by omega
  have hz5:w.heap.size<w1.heap.size+1:=by omega
  have hz6:w.heap.size+1<w1.heap.size+1:=by omega
  cases b
  all_goals
   go_wp2_with fail;go_region
   all_goals
    go_wp2
    first
     |refine bodyPost_ret (v:=.tuple #[.agg #[.string A.nm,.int .i64 A.cn,.string (A.t 0),.string (A.t 1),.string (A.t 2)],.agg #[.int .i64 0,.int .i64 A.np',.int .i64 (A.p 0),.int .i64 (A.p 1),.int .i64 (A.p 2)],.int .i64 0,.int .i64 0]) (by simp[results,results37,go_sem,a0,a1,a2,a3,a4,s0,s1,s2,s3,s4]) rfl ⟨rfl,?_⟩
     |refine bodyPost_ret (v:=.tuple #[.agg #[.string ⟨#[]⟩,.int .i64 0,.string ⟨#[]⟩,.string ⟨#[]⟩,.string ⟨#[]⟩],.agg #[.int .i64 0,.int .i64 0,.int .i64 0,.int .i64 0,.int .i64 0],.int .i64 3,.int .i64 A.np']) (by simp[results,results37,go_sem,a0,a1,a2,a3,a4,s0,s1,s2,s3,s4]) rfl ⟨rfl,?_⟩
    refine Below.drew ?_
    repeat (refine Below.setCell ?_ (by simp only[];omega) _)
    exact HB3.out
theorem I0(w:World)(base bb:Nat)(ds:List Ap)(hI:CW w base bb ds)(hW:∀d∈ds,d.WF)(hn:ds.length<=40)(s:ByteArray)(hs:s.size<=2000)(hok:(Bh s).ok=true)(hend:(Ao (Bh s).rest).isEmpty=true)
 (hknow:Ca (Bi ds).1 (Bh s).name=true)(hfit:MA (Bi ds).2 (BM (Bi ds).1 (Bh s).name)=((Bh s).ts.length:Nat))(hnl:(Bh s).name.length<=12):
 Calls prog 37 #[.pointer (some ⟨bb,0,none⟩),.string s] w fun e w'=>e=.returned (.tuple #[.agg (AW (Bh s).name (Bh s).ts).toArray,.agg (Bd 0 (Bh s).np (Bh s).ps).toArray,.int .i64 0,.int .i64 0])/\Below w.heap.size w w':=
 Ic w base bb ds hI hW hn s hs hok hend true (.inl ⟨hknow,by simp[hfit]⟩) hnl
end
end Go.Proofs.YtpbfiffgcgnidaaGreat
