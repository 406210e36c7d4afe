import Derived.Test.YtpbfiffgcgnidaaGreatYal
import Derived.Test.YtpbfiffgcgnidaaGreatY11
namespace Go.Proofs.YtpbfiffgcgnidaaGreat
set_option maxRecDepth 100000
set_option maxHeartbeats 4000000
set_option linter.unusedSimpArgs false
open Go.Proofs.Tryz
section
attribute [local go_sem] drewN_alloc drewN_setCell
open Go.RowKit Go.WideMaps Go.Maps
def unTerms(safe:List B8)(ps:List Nat):Nat->List B8->Option Nat
 |_,[]=>none
 |k,t::r=>if(isVar t&& !hasW safe t)=true then some (ps.getD k 0) else unTerms safe ps (k+1) r
def unAtoms(safe:List B8):List ((B8×List B8)×SpotD)->Option Nat
 |[]=>none
 |(a,sp)::r=>(unTerms safe sp.ps 0 a.2).or (unAtoms safe r)
def openR:List ClD->Option Nat
 |[]=>none
 |d::r=>(unAtoms (posT d.lits) (d.atoms.zip d.spots)).or (openR r)
theorem open_c(w:World)(base:Nat)(ao:Option Addr)(cap:Nat)(ds:List ClD)(hP:ProgIs w base (.slice ao ds.length cap) ds)(hW:∀d∈ds,d.WF)(hn:ds.length<=40):
 Calls prog 49 #[.slice ao ds.length cap] w fun e w'=>e=.returned (foundV (openR ds))/\Below w.heap.size w w':=by
 go_enter func49,ntmps49;go_wp2
 go_loopw [13] (fun i wr=>∃(k:Nat),k<=ds.length/\i=.int .i64 k/\Hid (openR (ds.drop k)=openR ds)/\Below w.heap.size w wr) (fun i _=>ds.length-(intOf i).toNat)
 case atStart=>exact⟨0,by omega,rfl,rfl,Below.refl _ _⟩
 case round=>
  obtain⟨k,hk,rfl,HX,hB⟩:=hrel;by_cases hlt:k<ds.length
  ·obtain⟨g,bo,bcap,so,scap,rfl,hg,e0,e1,e2,e3,e4,e5,e6,hLb,hSp⟩:=placed_at hP k hlt;have hwf:=hW ds[k] (List.getElem_mem hlt);have HD:Hid (openR (ds.drop k)=(unAtoms (posT ds[k].lits) (ds[k].atoms.zip ds[k].spots)).or (openR (ds.drop (k+1)))):=by show openR (ds.drop k)=_;rw[List.drop_eq_getElem_cons hlt];rfl
   generalize hdk:ds[k]=d at*;clear hdk;have hbw:w.heap.size<=wr.heap.size:=hB.size;have hl4:=hwf.lits;have HSL:=hid hwf.spots;rw[<-hB.cell (p:=⟨g,k*7,none⟩) hg]at e0;rw[<-hB.cell (p:=⟨g,k*7+1,none⟩) hg]at e1;rw[<-hB.cell (p:=⟨g,k*7+2,none⟩) hg]at e2;rw[<-hB.cell (p:=⟨g,k*7+3,none⟩) hg]at e3;rw[<-hB.cell (p:=⟨g,k*7+4,none⟩) hg]at e4;rw[<-hB.cell (p:=⟨g,k*7+5,none⟩) hg]at e5;rw[<-hB.cell (p:=⟨g,k*7+6,none⟩) hg]at e6;have hbx0:=Blk.new wr [Value.string d.nm,.int .i64 d.cn,.string (d.t 0),.string (d.t 1),.string (d.t 2),.slice bo d.lits.length bcap,.slice so d.spots.length scap] 124;have hL0:=(own_below hLb hB).alloc (.cells #[Value.string d.nm,.int .i64 d.cn,.string (d.t 0),.string (d.t 1),.string (d.t 2),.slice bo d.lits.length bcap,.slice so d.spots.length scap] 124);have hwl:∀l∈d.lits,l.ts.length<=3/\∀t∈l.ts,t.length<=12:=by intro l hl;exact(hwf.words (l.name,l.ts) (by simp only[ClD.atoms,List.mem_cons,List.mem_map];exact .inr ⟨l,hl,rfl⟩)).2
   go_wp2_with (first|(go_at_call 75;refine(positiveTerms_c _ base _ _ _ _ _ bo bcap d.lits (by exact hL0) hl4 hwl).mono ?_;rintro e w1 ⟨tb,mv,lv,rfl,htb,hC1,hS1,hB1⟩;have hbx1:=hbx0.below hB1;have f0:=hbx1.c7;obtain⟨f0,f1,f2,f3,f4,f5,f6⟩:=f0;have hL1:=own_below hL0 hB1)|(go_at_call 51;refine(atoms_c _ base d.nm (d.t 0) (d.t 1) (d.t 2) d.cn bo bcap d.name d.ts d.lits rfl (by exact hL1) (by omega)).mono ?_;rintro e w2 ⟨ga,capa,rfl,hA2,hB2⟩));clear e0 e1 e2 e3 e4 e5 e6 f0 f1 f2 f3 f4 f5 f6;have hC2:=hC1.below hB2;have hS2:=hS1.below hB2;have hbx2:=hbx1.below hB2;have hBw2:Below w.heap.size w w2:=((hB.alloc (by omega) _).trans (hB1.mono (by simp;omega))).trans (hB2.mono (by have:=hB1.size;simp at this;omega));clear hbx0 hbx1 hL0 hL1 hC1 hS1 hB hB1 hB2;simp only[World.size_alloc]at hA2 hS2 htb;generalize wr.heap.size=R at*;generalize w1.heap.size=R1 at*;have HZL:Hid ((d.atoms.zip d.spots).length=d.lits.length+1):=by show(d.atoms.zip d.spots).length=_;simp[ClD.atoms,hwf.spots]
   have hal:d.atoms.length=d.lits.length+1:=by simp[ClD.atoms]
   have HAL:=hid hal;clear hal;have hA2:w2.ownsRow R1 54 5 (.slice (some ⟨ga,0,none⟩) (d.lits.length+1) capa) (d.lits.length+1) (d.atoms.flatMap atomC):=hA2;obtain⟨safe,HSF⟩:∃safe,Hid (safe=posT d.lits):=⟨_,rfl⟩;rw[<-HSF.out]at hS2 HD
   go_loopw [24] (fun jv wq=>∃(j:Nat),j<=d.lits.length+1/\jv=.int .i64 j/\Hid ((unAtoms safe ((d.atoms.zip d.spots).drop j)).or (openR (ds.drop (k+1)))=openR ds)/\Below w2.heap.size w2 wq) (fun jv _=>d.lits.length+1-(intOf jv).toNat)
   case atStart=>refine⟨0,by omega,rfl,?_,Below.refl _ _⟩;show _=_;rw[<-HX.out,HD.out];rfl
   case round=>
    obtain⟨j,hj,rfl,HY,hBq⟩:=hrel;by_cases hjl:j<d.lits.length+1
    ·obtain⟨a0,a1,a2,a3,a4⟩:=atom_at (own_below hA2 hBq) HAL.out j (by rw[HAL.out];exact hjl);have hwd:=hwf.words _ (List.getElem_mem (show j<d.atoms.length by rw[HAL.out];exact hjl));have hdrop:=List.drop_eq_getElem_cons (show j<(d.atoms.zip d.spots).length by rw[HZL.out];exact hjl);rw[List.getElem_zip]at hdrop;obtain⟨gs,rfl,hgs,s0,s1,s2,s3,s4⟩:=spot_at hSp j (by rw[HSL.out];exact hjl);have hps:=hwf.places _ (List.getElem_mem (show j<d.spots.length by rw[HSL.out];exact hjl));obtain⟨a,ha⟩:∃a,d.atoms[j]'(by rw[HAL.out];exact hjl)=a:=⟨_,rfl⟩;obtain⟨sp,hsp⟩:∃sp,d.spots[j]'(by rw[HSL.out];exact hjl)=sp:=⟨_,rfl⟩;simp only[ha,hsp]at a0 a1 a2 a3 a4 hdrop hwd s0 s1 s2 s3 s4 hps;have HDR:=hid hdrop;clear ha hsp hdrop s0 s1;obtain⟨nm,ts⟩:=a;have a0':wr.cell? ⟨ga,j*5,none⟩=some (.string (bs nm)):=a0;have a1':wr.cell? ⟨ga,j*5+1,none⟩=some (.int .i64 (ts.length:Nat)):=a1;clear a0 a1;have h3:ts.length<=3:=hwd.2.1;have hjs:j<d.spots.length:=by rw[HSL.out];exact hjl
     have hsl:=fun W:World=>sliceN ts.length h3 wr.heap.size 2 W;have hbx3:=Blk.new wr [Value.string (bs nm),.int .i64 (ts.length:Nat),.string (atT (nm,ts) 0),.string (atT (nm,ts) 1),.string (atT (nm,ts) 2)] 54;have hb2:w2.heap.size<=wr.heap.size:=hBq.size;have hBq3:=hBq.alloc hb2 (.cells #[Value.string (bs nm),.int .i64 (ts.length:Nat),.string (atT (nm,ts) 0),.string (atT (nm,ts) 1),.string (atT (nm,ts) 2)] 54);go_wp2_with fail;clear a0' a1' a2 a3 a4 hsl hBq;generalize wr.heap.size=AB at*
     go_loopw [34] (fun mv2 wz=>∃(m:Nat),m<=ts.length/\mv2=.int .i64 m/\Hid ((unTerms safe sp.ps m (ts.drop m)).or ((unAtoms safe ((d.atoms.zip d.spots).drop (j+1))).or (openR (ds.drop (k+1))))=openR ds)/\Below w2.heap.size w2 wz/\
      Blk wz AB [.string (bs nm),.int .i64 (ts.length:Nat),.string (atT (nm,ts) 0),.string (atT (nm,ts) 1),.string (atT (nm,ts) 2)] 54) (fun mv2 _=>ts.length-(intOf mv2).toNat)
     case atStart=>refine⟨0,by omega,rfl,?_,hBq3,hbx3⟩;show _=_;rw[<-HY.out,HDR.out];simp only[unAtoms,List.drop_zero,Option.or_assoc]
     case round=>
      clear hbx3 hBq3;obtain⟨m,hm,rfl,HZ,hBz,hbz⟩:=hrel;by_cases hml:m<ts.length
      ·have hw12:=hwd.2.2 ts[m] (List.getElem_mem hml);have hdm:=List.drop_eq_getElem_cons hml
       have b0:wr.cell? ⟨AB,2+m,none⟩=some (.string (bs ts[m])):=by
               rw[hbz.cell];have h:m=0\/m=1\/m=2:=by omega
               rcases h with rfl|rfl|rfl<;>simp[atT,hml]
       obtain⟨tm,htm⟩:∃tm,ts[m]=tm:=⟨_,rfl⟩;rw[htm]at b0 hw12 hdm;have HDM:=hid hdm;clear htm hdm;have hCz:=hC2.below hBz;have hSz:=hS2.below hBz;have hbxz:=hbx2.below hBz;obtain⟨f0,f1,f2,f3,f4,f5,f6⟩:=hbxz.c7;have hkm:tm.length<=maxLen:=by unfold maxLen;omega
       cases hv:isVar tm
       ·have HN:Hid ((unTerms safe sp.ps (m+1) (ts.drop (m+1))).or ((unAtoms safe ((d.atoms.zip d.spots).drop (j+1))).or (openR (ds.drop (k+1))))=openR ds):=by show _=_;rw[<-HZ.out,HDM.out];simp[unTerms,hv]
        go_wp2_with (go_at_call 58;refine(isVariable_c _ _).mono ?_;rintro e w' ⟨rfl,rfl⟩);exact⟨⟨m+1,hml,by go_num,HN,hBz,hbz⟩,by simp[intOf];omega⟩
       ·cases hh:hasW safe tm
        ·have HE:Hid (openR ds=some (sp.ps.getD m 0)):=by show _=_;rw[<-HZ.out,HDM.out];simp[unTerms,hv,hh]
         have s5:wr.cell? ⟨gs,j*5+2+m,none⟩=some (.int .i64 (sp.ps.getD m 0:Nat)):=by
                rw[hBz.cell (p:=⟨gs,j*5+2+m,none⟩) (by have:=hBw2.size;simp only[];omega),hBw2.cell (p:=⟨gs,j*5+2+m,none⟩) hgs];have h:m=0\/m=1\/m=2:=by omega
                rcases h with rfl|rfl|rfl
                ·exact s2
                ·exact s3
                ·exact s4
         have hm3:m<3:=by omega
         obtain⟨q,hq⟩:∃q:Nat,sp.ps.getD m 0=q:=⟨_,rfl⟩;rw[hq]at s5 HE;clear hq;go_wp2_with (first|(go_at_call 58;refine(isVariable_c _ _).mono ?_;rintro e w' ⟨rfl,rfl⟩)|(go_at_call 76;refine(has_c _ (R+1) tb mv lv [] 100 safe tm (by exact hCz) (by exact hSz) hkm).mono ?_;rintro e w' ⟨rfl,rfl⟩));go_ret2;rw[HE.out];exact⟨rfl,hBw2.trans (hBz.mono (by have:=hBw2.size;omega))⟩
        ·have HN:Hid ((unTerms safe sp.ps (m+1) (ts.drop (m+1))).or ((unAtoms safe ((d.atoms.zip d.spots).drop (j+1))).or (openR (ds.drop (k+1))))=openR ds):=by show _=_;rw[<-HZ.out,HDM.out];simp[unTerms,hv,hh]
         go_wp2_with (first|(go_at_call 58;refine(isVariable_c _ _).mono ?_;rintro e w' ⟨rfl,rfl⟩)|(go_at_call 76;refine(has_c _ (R+1) tb mv lv [] 100 safe tm (by exact hCz) (by exact hSz) hkm).mono ?_;rintro e w' ⟨rfl,rfl⟩));exact⟨⟨m+1,hml,by go_num,HN,hBz,hbz⟩,by simp[intOf];omega⟩
      ·have HN:Hid ((unAtoms safe ((d.atoms.zip d.spots).drop (j+1))).or (openR (ds.drop (k+1)))=openR ds):=by show _=_;rw[<-HZ.out,show ts.drop m=[] from List.drop_of_length_le (by omega)];simp[unTerms]
       go_wp2;exact⟨⟨j+1,hjl,by go_num,HN,hBz⟩,by simp[intOf];omega⟩
    ·have HN:Hid (openR (ds.drop (k+1))=openR ds):=by show _=_;rw[<-HY.out,show(d.atoms.zip d.spots).drop j=[] from List.drop_of_length_le (by rw[HZL.out];omega)];simp[unAtoms]
     go_wp2;exact⟨⟨k+1,hlt,by go_num,HN,hBw2.trans (hBq.mono (by have:=hBw2.size;omega))⟩,by simp[intOf];omega⟩
  ·have hke:k=ds.length:=by omega
   have HE:Hid (openR ds=none):=by show openR ds=none;rw[<-HX.out,hke,List.drop_length];rfl
   clear hke;go_wp2;go_ret2;rw[HE.out];exact⟨rfl,hB⟩
end
end Go.Proofs.YtpbfiffgcgnidaaGreat
