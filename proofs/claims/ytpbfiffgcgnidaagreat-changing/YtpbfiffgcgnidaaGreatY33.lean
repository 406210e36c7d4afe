import Derived.Test.YtpbfiffgcgnidaaGreatYal
import Derived.Test.YtpbfiffgcgnidaaGreatY19
import Derived.Test.YtpbfiffgcgnidaaGreatY22
namespace Go.Proofs.YtpbfiffgcgnidaaGreat
set_option maxRecDepth 100000
set_option maxHeartbeats 4000000
set_option linter.unusedSimpArgs false
open Go.Proofs.Tryz
section
attribute [local go_sem] drewN_alloc drewN_setCell
open Go.RowKit Go.WideMaps Go.Maps
def addL(xs l:List B8):List B8:=l.foldl addW xs
def kindW(v:Bool)(l:List B8):List B8:=l.filter fun t=>isVar t==v
def termsV(v:Bool)(ats:List (B8×List B8)):List B8:=ats.flatMap fun a=>kindW v a.2
theorem addTerms_c(w:World)(base sb:Nat)(mv lv:Value)(xs:List B8)(d:ClD)(bo:Option Addr)(bcap:Nat)(v:Bool)(hC:Blk w sb [mv,lv] 100)(hS:SetIs w sb mv lv xs)(hL:w.ownsRow base 130 6 (.slice bo d.lits.length bcap) d.lits.length (d.lits.flatMap LitD.cells))(hwf:d.WF)(hx:xs.length<=1000):
 Calls prog 79 #[.pointer (some ⟨sb,0,none⟩),.agg #[.string d.nm,.int .i64 d.cn,.string (d.t 0),.string (d.t 1),.string (d.t 2),.slice bo d.lits.length bcap],.bool v] w fun e w'=>∃mv' lv',e=.returned (.tuple #[])/\Blk w' sb [mv',lv'] 100/\SetIs w' sb mv' lv' (addL xs (termsV v d.atoms))/\(addL xs (termsV v d.atoms)).length<=xs.length+15/\Below sb w w':=by
 have hl4:=hwf.lits;have hsb:=hC.lt;obtain⟨x0,hx0⟩:∃x0,xs.length=x0:=⟨_,rfl⟩;obtain⟨zs,HZS⟩:∃zs,Hid (addL xs (termsV v d.atoms)=zs):=⟨_,rfl⟩;rw[HZS.out];go_enter func79,ntmps79;go_wp2_with (go_at_call 51;refine(atoms_c _ base d.nm (d.t 0) (d.t 1) (d.t 2) d.cn bo bcap d.name d.ts d.lits rfl (by first|exact hL|exact hL.alloc _) (by omega)).mono ?_;rintro e w1 ⟨ga,capa,rfl,hA1,hB1⟩);have hB1':Below sb w w1:=((below_alloc w _).mono (by omega)).trans (hB1.mono (by simp;omega));have hC1:Blk w1 sb [mv,lv] 100:=(hC.alloc _).below hB1;have hS1:SetIs w1 sb mv lv xs:=(hS.alloc _).below hB1;have hA2:w1.ownsRow (w.alloc (.cells #[.string d.nm,.int .i64 d.cn,.string (d.t 0),.string (d.t 1),.string (d.t 2),.slice bo d.lits.length bcap] 60)).heap.size 54 5 (.slice (some ⟨ga,0,none⟩) (d.lits.length+1) capa) (d.lits.length+1) (d.atoms.flatMap atomC):=hA1;have hal:d.atoms.length=d.lits.length+1:=by simp[ClD.atoms]
 have HAL:=hid hal;clear hal hA1 hB1 hC hS hL;generalize (w.alloc (.cells #[.string d.nm,.int .i64 d.cn,.string (d.t 0),.string (d.t 1),.string (d.t 2),.slice bo d.lits.length bcap] 60)).heap.size=R at hA2
 go_loopw [13] (fun jv wr=>∃(j:Nat) (ys:List B8) (mv lv:Value),j<=d.lits.length+1/\jv=.int .i64 (j:Nat)/\ys.length<=x0+3*j/\Hid (addL ys (termsV v (d.atoms.drop j))=zs)/\Blk wr sb [mv,lv] 100/\SetIs wr sb mv lv ys/\
  wr.ownsRow R 54 5 (.slice (some ⟨ga,0,none⟩) (d.lits.length+1) capa) (d.lits.length+1) (d.atoms.flatMap atomC)/\Below sb w wr) (fun jv _=>d.lits.length+1-(intOf jv).toNat)
 case atStart=>exact⟨0,xs,mv,lv,by omega,rfl,by omega,HZS,hC1,hS1,hA2,hB1'⟩
 case round=>
  clear hC1 hS1 hA2 hB1';obtain⟨j,ys,mv,lv,hj,rfl,hyl,HX,hC,hS,hA,hB⟩:=hrel;have hbw:=hC.lt;by_cases hjl:j<d.lits.length+1
  ·obtain⟨a0,a1,a2,a3,a4⟩:=atom_at hA HAL.out j (by rw[HAL.out];exact hjl);have hdrop:=List.drop_eq_getElem_cons (show j<d.atoms.length by rw[HAL.out];exact hjl);have hwd:=hwf.words _ (List.getElem_mem (show j<d.atoms.length by rw[HAL.out];exact hjl));obtain⟨a,ha⟩:∃a,d.atoms[j]'(by rw[HAL.out];exact hjl)=a:=⟨_,rfl⟩;simp only[ha]at a0 a1 a2 a3 a4 hdrop hwd;have HDR:=hid hdrop;clear ha hdrop;obtain⟨nm,ts⟩:=a;have a0':wr.cell? ⟨ga,j*5,none⟩=some (.string (bs nm)):=a0;have a1':wr.cell? ⟨ga,j*5+1,none⟩=some (.int .i64 (ts.length:Nat)):=a1;clear a0 a1;have h3:ts.length<=3:=hwd.2.1;have hsl:=fun W:World=>sliceN ts.length h3 wr.heap.size 2 W;have hbx3:=Blk.new wr [Value.string (bs nm),.int .i64 (ts.length:Nat),.string (atT (nm,ts) 0),.string (atT (nm,ts) 1),.string (atT (nm,ts) 2)] 54;have hC3:=hC.alloc (.cells #[Value.string (bs nm),.int .i64 (ts.length:Nat),.string (atT (nm,ts) 0),.string (atT (nm,ts) 1),.string (atT (nm,ts) 2)] 54);have hS3:=hS.alloc (.cells #[Value.string (bs nm),.int .i64 (ts.length:Nat),.string (atT (nm,ts) 0),.string (atT (nm,ts) 1),.string (atT (nm,ts) 2)] 54);have hA3:=hA.alloc (.cells #[Value.string (bs nm),.int .i64 (ts.length:Nat),.string (atT (nm,ts) 0),.string (atT (nm,ts) 1),.string (atT (nm,ts) 2)] 54);have hB3:=hB.alloc (by omega) (.cells #[Value.string (bs nm),.int .i64 (ts.length:Nat),.string (atT (nm,ts) 0),.string (atT (nm,ts) 1),.string (atT (nm,ts) 2)] 54);have HZ0:Hid (addL ys (kindW v (ts.drop 0)++termsV v (d.atoms.drop (j+1)))=zs):=by show _=_;rw[<-HX.out,HDR.out];rfl
   go_wp2_with fail;clear a0' a1' a2 a3 a4 hsl hB hC hS hA;obtain⟨AB,hAB⟩:∃AB,wr.heap.size=AB:=⟨_,rfl⟩;rw[hAB]at hbx3 hbw⊢
   go_loopw [22] (fun iv wz=>∃(m:Nat) (ys:List B8) (mv lv:Value),m<=ts.length/\iv=.int .i64 (m:Nat)/\ys.length<=x0+3*j+m/\Hid (addL ys (kindW v (ts.drop m)++termsV v (d.atoms.drop (j+1)))=zs)/\Blk wz sb [mv,lv] 100/\SetIs wz sb mv lv ys/\
    wz.ownsRow R 54 5 (.slice (some ⟨ga,0,none⟩) (d.lits.length+1) capa) (d.lits.length+1) (d.atoms.flatMap atomC)/\Below sb w wz/\Blk wz AB [.string (bs nm),.int .i64 (ts.length:Nat),.string (atT (nm,ts) 0),.string (atT (nm,ts) 1),.string (atT (nm,ts) 2)] 54) (fun iv _=>ts.length-(intOf iv).toNat)
   case atStart=>exact⟨0,ys,mv,lv,by omega,rfl,by omega,HZ0,hC3,hS3,hA3,hB3,hbx3⟩
   case round=>
    clear hbx3 hC3 hS3 hA3 hB3 HZ0 HX hyl;obtain⟨m,ys,mv,lv,hm,rfl,hyl,HZ,hC,hS,hA,hB,hbz⟩:=hrel;have hbw2:=hC.lt;by_cases hml:m<ts.length
    ·have hw12:=hwd.2.2 ts[m] (List.getElem_mem hml);have hdm:=List.drop_eq_getElem_cons hml
     have b0:wr.cell? ⟨AB,2+m,none⟩=some (.string (bs ts[m])):=by
      rw[hbz.cell];have h:m=0\/m=1\/m=2:=by omega
      rcases h with rfl|rfl|rfl<;>simp[atT,hml]
     obtain⟨tm,htm⟩:∃tm,ts[m]=tm:=⟨_,rfl⟩;rw[htm]at b0 hw12 hdm;have HDM:=hid hdm;clear htm hdm;have hkm:tm.length<=maxLen:=by unfold maxLen;omega
     by_cases hv:isVar tm=v
     ·have hd:(isVar tm==v)=true:=by simp[hv]
      have hd2:decide (isVar tm=v)=true:=by simp[hv]
      have HN:Hid (addL (addW ys tm) (kindW v (ts.drop (m+1))++termsV v (d.atoms.drop (j+1)))=zs):=by show _=_;rw[<-HZ.out,HDM.out];simp[kindW,hd,addL]
      have hal:=addW_len ys tm;have hV:=isVariable_c tm;have HV:=hid hV;clear hV;rw[hv]at HV;clear hv hd hd2;go_wp2_with (first|(go_at_call 58;refine(HV.out _).mono ?_;rintro e w' ⟨rfl,rfl⟩)|(go_at_call 52;refine(add_any _ sb sb mv lv 100 ys tm (by exact hC) (by exact hS) hkm (by omega) (by decide) (by omega)).mono ?_;rintro e w2 ⟨pp,qq,mv',lv',rfl,hC2,hS2,hX2⟩));exact⟨⟨m+1,addW ys tm,mv',lv',hml,by go_num,by omega,HN,hC2,hS2,hX2.own hA (own_ne hA hC (by decide)) (by decide),hB.trans (hX2.toBelow (by omega)),hX2.ty _ _ _ (by omega) (by decide) hbz⟩,by simp[intOf];omega⟩
     ·have hv2:isVar tm= !v:=by cases e:isVar tm<;>cases v<;>simp_all
      have HN:Hid (addL ys (kindW v (ts.drop (m+1))++termsV v (d.atoms.drop (j+1)))=zs):=by show _=_;rw[<-HZ.out,HDM.out];simp[kindW,hv2]
      have HV:=hid (isVariable_c tm);rw[hv2]at HV;clear hv hv2;cases v
      all_goals
          simp only[Bool.not_false,Bool.not_true]at HV;go_wp2_with (go_at_call 58;refine(HV.out _).mono ?_;rintro e w' ⟨rfl,rfl⟩);exact⟨⟨m+1,ys,mv,lv,hml,by go_num,by omega,HN,hC,hS,hA,hB,hbz⟩,by simp[intOf];omega⟩
    ·have hme:m=ts.length:=by omega
     have HN:Hid (addL ys (termsV v (d.atoms.drop (j+1)))=zs):=by show _=_;rw[<-HZ.out,hme,List.drop_length];rfl
     clear hme;go_wp2;exact⟨⟨j+1,ys,mv,lv,hjl,by go_num,by omega,HN,hC,hS,hA,hB⟩,by simp[intOf];omega⟩
  ·have hje:j=d.lits.length+1:=by omega
   have HE:Hid (ys=zs):=by show _=_;rw[<-HX.out,hje,<-HAL.out,List.drop_length];rfl
   clear hje;go_wp2
   go_end0
   rw[<-HE.out];exact⟨mv,lv,rfl,hC,hS,by omega,hB⟩
def varsD(d:ClD):List B8:=addL [] (termsV true d.atoms)
def constsD(ds:List ClD):List B8:=addL [] (ds.flatMap fun d=>termsV false d.atoms)
theorem countVariables_c(w:World)(base:Nat)(d:ClD)(bo:Option Addr)(bcap:Nat)(hL:w.ownsRow base 130 6 (.slice bo d.lits.length bcap) d.lits.length (d.lits.flatMap LitD.cells))(hwf:d.WF):
 Calls prog 61 #[.agg #[.string d.nm,.int .i64 d.cn,.string (d.t 0),.string (d.t 1),.string (d.t 2),.slice bo d.lits.length bcap]] w fun e w'=>e=.returned (.int .i64 ((varsD d).length:Nat))/\(varsD d).length<=15/\Below w.heap.size w w':=by
 obtain⟨zs,HZS⟩:∃zs,Hid (varsD d=zs):=⟨_,rfl⟩;rw[HZS.out];have hN:=new_two w (.cells #[.string d.nm,.int .i64 d.cn,.string (d.t 0),.string (d.t 1),.string (d.t 2),.slice bo d.lits.length bcap] 60) [.map none,.slice none 0 0] 100;have hS0:SetIs ((w.alloc (.cells #[.string d.nm,.int .i64 d.cn,.string (d.t 0),.string (d.t 1),.string (d.t 2),.slice bo d.lits.length bcap] 60)).alloc (.cells #[.map none,.slice none 0 0] 100)) (w.heap.size+1) (.map none) (.slice none 0 0) []:=⟨World.ownsRow_nil _ _ _ _,.inl ⟨rfl,rfl⟩⟩;have HA:=hid (addTerms_c _ base (w.heap.size+1) _ _ [] d bo bcap true hN hS0 ((hL.alloc _).alloc _) hwf (by simp));have hz:addL [] (termsV true d.atoms)=zs:=HZS.out;rw[hz]at HA;clear hz;go_enter func61,ntmps61;go_wp2_with (first|(go_at_call 79;refine(HA.out).mono ?_;rintro e w1 ⟨mv,lv,rfl,hC1,hS1,hl1,hB1⟩)|(go_at_call 35;refine(len_c _ (w.heap.size+1) (w.heap.size+1) mv lv [] 100 zs (by exact hC1) (by exact hS1)).mono ?_;rintro e w2 ⟨he,hw2⟩;subst w2;subst he))
 go_ret
 exact⟨rfl,by simpa using hl1,((below_alloc w _).alloc (by simp) _).trans (hB1.mono (by omega))⟩
theorem countConstants_c(w:World)(base:Nat)(ao:Option Addr)(cap:Nat)(ds:List ClD)(hP:ClausesIs w base (.slice ao ds.length cap) ds)(hW:∀d∈ds,d.WF)(hn:ds.length<=40):
 Calls prog 59 #[.slice ao ds.length cap] w fun e w'=>e=.returned (.int .i64 ((constsD ds).length:Nat))/\(constsD ds).length<=600/\Below w.heap.size w w':=by
 obtain⟨zs,HZS⟩:∃zs,Hid (constsD ds=zs):=⟨_,rfl⟩;rw[HZS.out];go_enter func59,ntmps59;go_wp2_with fail
 go_loopw [8] (fun iv wr=>∃(k:Nat) (ys:List B8) (mv lv:Value),k<=ds.length/\iv=.int .i64 (k:Nat)/\ys.length<=15*k/\Hid (addL ys ((ds.drop k).flatMap fun d=>termsV false d.atoms)=zs)/\Blk wr w.heap.size [mv,lv] 100/\SetIs wr w.heap.size mv lv ys/\Below w.heap.size w wr) (fun iv _=>ds.length-(intOf iv).toNat)
 case atStart=>exact⟨0,[],.map none,.slice none 0 0,by omega,rfl,by simp,HZS,Blk.new w [.map none,.slice none 0 0] 100,⟨World.ownsRow_nil _ _ _ _,.inl ⟨rfl,rfl⟩⟩,below_alloc w _⟩
 case round=>
  obtain⟨k,ys,mv,lv,hk,rfl,hyl,HX,hC,hS,hB⟩:=hrel;by_cases hlt:k<ds.length
  ·obtain⟨g,bo,bcap,hao,hg,e0,e1,e2,e3,e4,e5,hLb⟩:=clause_at hP k hlt;subst hao;have hwf:=hW ds[k] (List.getElem_mem hlt);have hdk:=List.drop_eq_getElem_cons hlt;obtain⟨d,hd⟩:∃d,ds[k]=d:=⟨_,rfl⟩;simp only[hd]at e0 e1 e2 e3 e4 e5 hLb hwf hdk;have HN:Hid (addL (addL ys (termsV false d.atoms)) ((ds.drop (k+1)).flatMap fun d=>termsV false d.atoms)=zs):=by show _=_;rw[<-HX.out,hdk,List.flatMap_cons];simp[addL]
   clear hd hdk HX;rw[<-hB.cell (p:=⟨g,k*6,none⟩) hg]at e0;rw[<-hB.cell (p:=⟨g,k*6+1,none⟩) hg]at e1;rw[<-hB.cell (p:=⟨g,k*6+2,none⟩) hg]at e2;rw[<-hB.cell (p:=⟨g,k*6+3,none⟩) hg]at e3;rw[<-hB.cell (p:=⟨g,k*6+4,none⟩) hg]at e4;rw[<-hB.cell (p:=⟨g,k*6+5,none⟩) hg]at e5;have hbw:=hC.lt;have HA:=hid (addTerms_c (wr.alloc (.cells #[.string d.nm,.int .i64 d.cn,.string (d.t 0),.string (d.t 1),.string (d.t 2),.slice bo d.lits.length bcap] 60)) base w.heap.size mv lv ys d bo bcap false (hC.alloc _) (hS.alloc _) ((own_below hLb hB).alloc _) hwf (by omega));go_wp2_with (go_at_call 79;refine(HA.out).mono ?_;rintro e w1 ⟨mv',lv',rfl,hC1,hS1,hl1,hB1⟩);exact⟨⟨k+1,_,mv',lv',hlt,by go_num,by omega,HN,hC1,hS1,(hB.alloc (by omega) _).trans hB1⟩,by simp[intOf];omega⟩
  ·have hke:k=ds.length:=by omega
   have HE:Hid (ys=zs):=by show _=_;rw[<-HX.out,hke,List.drop_length];rfl
   have hyz:ys.length=zs.length:=by rw[HE.out]
   clear hke HX;have HLen:=hid (len_c wr w.heap.size w.heap.size mv lv [] 100 ys hC hS);rw[hyz]at HLen;go_wp2_with (go_at_call 35;refine(HLen.out).mono ?_;rintro e w2 ⟨he,hw2⟩;subst w2;subst he)
   go_ret
   exact⟨rfl,by omega,hB⟩
def workD(c:Nat)(d:ClD):Nat:=if isFactB d.lits.length d.ts=true then 0 else c ^ (varsD d).length
def workAll(c:Nat)(ds:List ClD):Nat:=(ds.map (workD c)).sum
def aboveG(c lim:Nat):Nat->List ClD->Bool
 |_,[]=>false
 |s,d::r=>if isFactB d.lits.length d.ts=true then aboveG c lim s r else if lim<s+powS c lim (varsD d).length then true else aboveG c lim (s+powS c lim (varsD d).length) r
theorem aboveG_spec(c lim:Nat)(hc:1<=c)(ds:List ClD):∀s,s<=lim->aboveG c lim s ds=decide (lim<s+workAll c ds):=by
 induction ds with
 |nil=>intro s hs;simp[aboveG,workAll];omega
 |cons d r ih=>
  intro s hs;have e:workAll c (d::r)=workD c d+workAll c r:=by simp[workAll]
  rw[e,aboveG];by_cases hf:isFactB d.lits.length d.ts=true
  ·rw[if_pos hf,ih s hs,show workD c d=0 by simp[workD,hf],Nat.zero_add]
  ·rw[if_neg hf,show workD c d=c ^ (varsD d).length by simp[workD,hf]];rcases powS_spec c lim hc (varsD d).length with h|⟨h,h'⟩
   ·rw[h];by_cases hl:lim<s+c ^ (varsD d).length
    ·rw[if_pos hl,eq_comm,decide_eq_true_iff];omega
    ·rw[if_neg hl,ih _ (by omega),Nat.add_assoc]
   ·rw[if_pos (by omega),eq_comm,decide_eq_true_iff];omega
theorem isAbove_c(w:World)(base:Nat)(ao:Option Addr)(cap:Nat)(ds:List ClD)(lim:Nat)(hl0:1<=lim)(hl:lim<=100000)(hP:ClausesIs w base (.slice ao ds.length cap) ds)(hW:∀d∈ds,d.WF)(hn:ds.length<=40):
 Calls prog 42 #[.slice ao ds.length cap,.int .i64 (lim:Nat)] w fun e w'=>e=.returned (.bool (decide (lim<workAll (max 1 (constsD ds).length) ds)))/\Below w.heap.size w w':=by
 have hsp:=aboveG_spec (max 1 (constsD ds).length) lim (by omega) ds 0 (by omega);rw[Nat.zero_add]at hsp;rw[<-hsp];clear hsp;have HCC:=hid (countConstants_c w base ao cap ds hP hW hn);obtain⟨cc,HC0⟩:∃cc,Hid ((constsD ds).length=cc):=⟨_,rfl⟩;rw[HC0.out]at HCC⊢;obtain⟨z,HZ⟩:∃z,Hid (aboveG (max 1 cc) lim 0 ds=z):=⟨_,rfl⟩;rw[HZ.out];go_enter func42,ntmps42;go_wp2_with (go_at_call 59;refine(HCC.out).mono ?_;rintro e w1 ⟨rfl,hcl,hB1⟩);clear HCC HC0;rw[show(max 1 (cc:Int))=((max 1 cc:Nat):Int) by omega];obtain⟨C,hC⟩:∃C,max 1 cc=C:=⟨_,rfl⟩;have hC1:1<=C:=by omega
 have hC2:C<=600:=by omega
 rw[hC]at HZ⊢;clear hC hcl
 go_loopw [6,14] (fun sv iv wr=>∃(k s:Nat),k<=ds.length/\iv=.int .i64 (k:Nat)/\sv=.int .i64 (s:Nat)/\s<=lim/\Hid (aboveG C lim s (ds.drop k)=z)/\Below w.heap.size w wr) (fun _ iv _=>ds.length-(intOf iv).toNat)
 case atStart=>exact⟨0,0,by omega,rfl,rfl,by omega,HZ,hB1⟩
 case round=>
  clear HZ hB1;obtain⟨k,s,hk,rfl,rfl,hs,HX,hB⟩:=hrel;have hbw:=hB.size;by_cases hlt:k<ds.length
  ·obtain⟨g,bo,bcap,hao,hg,e0,e1,e2,e3,e4,e5,hLb⟩:=clause_at hP k hlt;subst hao;have hwf:=hW ds[k] (List.getElem_mem hlt);have hdk:=List.drop_eq_getElem_cons hlt;obtain⟨d,hd⟩:∃d,ds[k]=d:=⟨_,rfl⟩;simp only[hd]at e0 e1 e2 e3 e4 e5 hLb hwf hdk;have hx:=HX.out;rw[hdk,aboveG]at hx;clear hd hdk HX;rw[<-hB.cell (p:=⟨g,k*6,none⟩) hg]at e0;rw[<-hB.cell (p:=⟨g,k*6+1,none⟩) hg]at e1;rw[<-hB.cell (p:=⟨g,k*6+2,none⟩) hg]at e2;rw[<-hB.cell (p:=⟨g,k*6+3,none⟩) hg]at e3;rw[<-hB.cell (p:=⟨g,k*6+4,none⟩) hg]at e4;rw[<-hB.cell (p:=⟨g,k*6+5,none⟩) hg]at e5;have h3:d.ts.length<=3:=(hwf.words (d.name,d.ts) (by simp[ClD.atoms])).2.1;have hF:∀W:World,Calls prog 41 #[.agg #[.string d.nm,.int .i64 d.cn,.string (d.t 0),.string (d.t 1),.string (d.t 2),.slice bo d.lits.length bcap]] W fun e w'=>e=.returned (.bool (isFactB d.lits.length d.ts))/\Below W.heap.size W w':=fun W=>isFact_c W d.nm d.ts bo d.lits.length bcap h3 hwf.lits;have HF:=hid hF;clear hF;have hbx:=Blk.new wr [Value.string d.nm,.int .i64 d.cn,.string (d.t 0),.string (d.t 1),.string (d.t 2),.slice bo d.lits.length bcap] 60;have hBa:=hB.alloc hbw (.cells #[Value.string d.nm,.int .i64 d.cn,.string (d.t 0),.string (d.t 1),.string (d.t 2),.slice bo d.lits.length bcap] 60);have hsa:w.heap.size<=(wr.alloc (.cells #[Value.string d.nm,.int .i64 d.cn,.string (d.t 0),.string (d.t 1),.string (d.t 2),.slice bo d.lits.length bcap] 60)).heap.size:=by simp;omega
   cases hf:isFactB d.lits.length d.ts
   ·rw[hf]at HF hx;rw[if_neg (by simp)]at hx;clear hf;have HV:Hid (∀W:World,Below w.heap.size w W->Calls prog 61 #[.agg #[.string d.nm,.int .i64 d.cn,.string (d.t 0),.string (d.t 1),.string (d.t 2),.slice bo d.lits.length bcap]] W fun e w'=>e=.returned (.int .i64 ((varsD d).length:Nat))/\(varsD d).length<=15/\Below W.heap.size W w'):=fun W hb=>countVariables_c W base d bo bcap (own_below hLb hb) hwf;obtain⟨n,hn'⟩:∃n,(varsD d).length=n:=⟨_,rfl⟩;rw[hn']at HV hx;clear hn';have hpl:=powS_le C lim hl0 hC1 n;have hcl:lim*C<=100000*600:=Nat.mul_le_mul hl hC2;have hPw:n<=15->∀W:World,Calls prog 60 #[.int .i64 (C:Nat),.int .i64 (n:Nat),.int .i64 (lim:Nat)] W fun r w'=>r=.returned (.int .i64 (powS C lim n:Nat))/\w'=W:=fun h W=>power_c W C n lim (by omega) hl (by omega);have HP:=hid hPw;clear hPw;obtain⟨p,hp⟩:∃p,powS C lim n=p:=⟨_,rfl⟩;rw[hp]at HP hx hpl;clear hp;have hpm:p<=100000*600:=by omega
    clear hpl hcl;by_cases hgt:lim<s+p
    ·rw[if_pos hgt]at hx;have hgi:(lim:Int)<(s:Int)+(p:Int):=by omega
     subst hx;go_wp2_with (first|(go_at_call 41;refine(HF.out _).mono ?_;rintro e w2 ⟨rfl,hB2⟩;have hbx2:=hbx.below hB2;have c0:w2.cell? ⟨wr.heap.size,0,none⟩=some (.string d.nm):=hbx2.cell 0;have c1:w2.cell? ⟨wr.heap.size,1,none⟩=some (.int .i64 d.cn):=hbx2.cell 1;have c2:w2.cell? ⟨wr.heap.size,2,none⟩=some (.string (d.t 0)):=hbx2.cell 2;have c3:w2.cell? ⟨wr.heap.size,3,none⟩=some (.string (d.t 1)):=hbx2.cell 3;have c4:w2.cell? ⟨wr.heap.size,4,none⟩=some (.string (d.t 2)):=hbx2.cell 4;have c5:w2.cell? ⟨wr.heap.size,5,none⟩=some (.slice bo d.lits.length bcap):=hbx2.cell 5;have hB2':Below w.heap.size w w2:=hBa.trans (hB2.mono hsa);have hs2:=hB2'.size)|(go_at_call 61;refine(HV.out _ hB2').mono ?_;rintro e w3 ⟨rfl,hn15,hB3⟩)|(go_at_call 60;refine(HP.out hn15 _).mono ?_;rintro e w4 ⟨he,hw4⟩;subst w4;subst he))
     go_ret
     exact⟨rfl,hB2'.trans (hB3.mono hs2)⟩
    ·rw[if_neg hgt]at hx;have hgi:¬(lim:Int)<(s:Int)+(p:Int):=by omega
     have HX:=hid hx;clear hx;go_wp2_with (first|(go_at_call 41;refine(HF.out _).mono ?_;rintro e w2 ⟨rfl,hB2⟩;have hbx2:=hbx.below hB2;have c0:w2.cell? ⟨wr.heap.size,0,none⟩=some (.string d.nm):=hbx2.cell 0;have c1:w2.cell? ⟨wr.heap.size,1,none⟩=some (.int .i64 d.cn):=hbx2.cell 1;have c2:w2.cell? ⟨wr.heap.size,2,none⟩=some (.string (d.t 0)):=hbx2.cell 2;have c3:w2.cell? ⟨wr.heap.size,3,none⟩=some (.string (d.t 1)):=hbx2.cell 3;have c4:w2.cell? ⟨wr.heap.size,4,none⟩=some (.string (d.t 2)):=hbx2.cell 4;have c5:w2.cell? ⟨wr.heap.size,5,none⟩=some (.slice bo d.lits.length bcap):=hbx2.cell 5;have hB2':Below w.heap.size w w2:=hBa.trans (hB2.mono hsa);have hs2:=hB2'.size)|(go_at_call 61;refine(HV.out _ hB2').mono ?_;rintro e w3 ⟨rfl,hn15,hB3⟩)|(go_at_call 60;refine(HP.out hn15 _).mono ?_;rintro e w4 ⟨he,hw4⟩;subst w4;subst he));exact⟨⟨k+1,s+p,hlt,by go_num,by go_num,by omega,HX,hB2'.trans (hB3.mono hs2)⟩,by simp[intOf];omega⟩
   ·rw[hf]at HF hx;rw[if_pos rfl]at hx;have HX:=hid hx;clear hf hx;go_wp2_with (go_at_call 41;refine(HF.out _).mono ?_;rintro e w2 ⟨rfl,hB2⟩);exact⟨⟨k+1,s,hlt,by go_num,rfl,hs,HX,hBa.trans (hB2.mono hsa)⟩,by simp[intOf];omega⟩
  ·have hke:k=ds.length:=by omega
   have hx:=HX.out;rw[hke,List.drop_length,aboveG]at hx;subst hx;clear hke;go_wp2_with fail
   go_ret
   exact⟨rfl,hB⟩
end
end Go.Proofs.YtpbfiffgcgnidaaGreat
