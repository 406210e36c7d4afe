import Derived.Test.YtpbfiffgcgnidaaGreatYal
import Derived.Test.YtpbfiffgcgnidaaGreatY12
import Derived.Test.YtpbfiffgcgnidaaGreatY22
namespace Go.Proofs.YtpbfiffgcgnidaaGreat
set_option maxRecDepth 100000
set_option maxHeartbeats 4000000
set_option linter.unusedSimpArgs false
open Go.Proofs.Tryz
section
attribute [local go_sem] drewN_alloc drewN_setCell
open Go.RowKit Go.WideMaps Go.Maps
def cntStep(c:List B8×List Nat)(a:B8×Nat):List B8×List Nat:=if hasW c.1 a.1=true then c else(c.1++[a.1],c.2++[a.2])
def ClD.pairs(d:ClD):List (B8×Nat):=d.atoms.map fun a=>(a.1,a.2.length)
def cntGo(c:List B8×List Nat)(l:List (B8×Nat)):List B8×List Nat:=l.foldl cntStep c
def countsR(ds:List ClD):List B8×List Nat:=cntGo ([],[]) (ds.flatMap ClD.pairs)
theorem pairs_at(d:ClD)(j:Nat)(h:j<d.atoms.length):d.pairs.drop j=(d.atoms[j].1,d.atoms[j].2.length)::d.pairs.drop (j+1):=by
 have hl:j<d.pairs.length:=by simpa[ClD.pairs]using h
 rw[List.drop_eq_getElem_cons hl];simp[ClD.pairs]
theorem countsOf_c(w:World)(base:Nat)(ao:Option Addr)(cap:Nat)(ds:List ClD)(hP:ClausesIs w base (.slice ao ds.length cap) ds)(hW:∀d∈ds,d.WF)(hn:ds.length<=40):
 Calls prog 55 #[.slice ao ds.length cap] w fun e w'=>∃mv lv cv,e=.returned (.pointer (some ⟨w.heap.size,0,none⟩))/\Blk w' w.heap.size [mv,lv,cv] 164/\CountsIs w' w.heap.size mv lv cv (countsR ds).1 (countsR ds).2/\(countsR ds).1.length<=200/\Below w.heap.size w w':=by
 go_enter func55,ntmps55;go_wp2
 go_loopw [12] (fun i wr=>∃(k:Nat) (xs:List B8) (ns:List Nat) (mv lv cv:Value),k<=ds.length/\i=.int .i64 k/\xs.length<=5*k/\Hid (cntGo (xs,ns) ((ds.drop k).flatMap ClD.pairs)=countsR ds)/\
  Blk wr w.heap.size [mv,lv,cv] 164/\CountsIs wr w.heap.size mv lv cv xs ns/\Below w.heap.size w wr) (fun i _=>ds.length-(intOf i).toNat)
 case atStart=>exact⟨0,[],[],.map none,.slice none 0 0,.slice none 0 0,by omega,rfl,by simp,rfl,Blk.new w zC 164,⟨⟨World.ownsRow_nil _ _ _ _,.inl ⟨rfl,rfl⟩⟩,rfl,World.ownsRow_nil _ _ _ _⟩,(Below.refl _ _).alloc (Nat.le_refl _) _⟩
 case round=>
  obtain⟨k,xs,ns,mv,lv,cv,hk,rfl,hxl,HX,hC,hCI,hB⟩:=hrel;by_cases hlt:k<ds.length
  ·obtain⟨g,bo,bcap,hao,hg,e0,e1,e2,e3,e4,e5,hLb⟩:=clause_at hP k hlt;subst hao;have hwf:=hW ds[k] (List.getElem_mem hlt);have HD:Hid ((ds.drop k).flatMap ClD.pairs=ds[k].pairs++(ds.drop (k+1)).flatMap ClD.pairs):=by show(ds.drop k).flatMap ClD.pairs=_;rw[List.drop_eq_getElem_cons hlt];rfl
   generalize ds[k]=d at*;have hbw:w.heap.size<wr.heap.size:=hC.lt;have hl4:=hwf.lits;rw[<-hB.cell (p:=⟨g,k*6,none⟩) hg]at e0;rw[<-hB.cell (p:=⟨g,k*6+1,none⟩) hg]at e1;rw[<-hB.cell (p:=⟨g,k*6+2,none⟩) hg]at e2;rw[<-hB.cell (p:=⟨g,k*6+3,none⟩) hg]at e3;rw[<-hB.cell (p:=⟨g,k*6+4,none⟩) hg]at e4;rw[<-hB.cell (p:=⟨g,k*6+5,none⟩) hg]at e5;have hBr:Below wr.heap.size wr (wr.alloc (.cells #[Value.string d.nm,.int .i64 d.cn,.string (d.t 0),.string (d.t 1),.string (d.t 2),.slice bo d.lits.length bcap] 60)):=below_alloc _ _;go_wp2_with (go_at_call 51;refine(atoms_c _ base d.nm (d.t 0) (d.t 1) (d.t 2) d.cn bo bcap d.name d.ts d.lits rfl (by exact(own_below hLb hB).alloc _) (by omega)).mono ?_;rintro e w1 ⟨ga,capa,rfl,hA1,hB1⟩);clear e0 e1 e2 e3 e4 e5;have hC1:=(hC.alloc _).below hB1;have hCI1:=(hCI.below hBr).below hB1;have hBw1:Below w.heap.size w w1:=(hB.alloc (by omega) _).trans (hB1.mono (by simp;omega));clear hBr hC hCI hB hB1;simp only[World.size_alloc]at hA1;generalize wr.heap.size=R at*
   go_loopw [19] (fun jv wr=>∃(j:Nat) (xs:List B8) (ns:List Nat) (mv lv cv:Value),j<=d.lits.length+1/\jv=.int .i64 j/\xs.length<=5*k+j/\Hid (cntGo (xs,ns) (d.pairs.drop j++(ds.drop (k+1)).flatMap ClD.pairs)=countsR ds)/\
    Blk wr w.heap.size [mv,lv,cv] 164/\CountsIs wr w.heap.size mv lv cv xs ns/\
    wr.ownsRow (R+1) 54 5 (.slice (some ⟨ga,0,none⟩) (d.lits.length+1) capa) (d.lits.length+1) (d.atoms.flatMap atomC)/\Below w.heap.size w wr) (fun jv _=>d.lits.length+1-(intOf jv).toNat)
   case atStart=>
    refine⟨0,xs,ns,mv,lv,cv,by omega,rfl,by omega,?_,hC1,hCI1,?_,hBw1⟩
    ·show cntGo (xs,ns) (d.pairs.drop 0++_)=countsR ds;rw[<-HX.out,HD.out];rfl
    ·exact hA1
   case round=>
    clear hC1 hCI1 hBw1 hA1 HX hxl;obtain⟨j,xs,ns,mv,lv,cv,hj,rfl,hxl,HX,hC,hCI,hA,hB⟩:=hrel;have hbw1:w.heap.size<wr.heap.size:=hC.lt;have hal:d.atoms.length=d.lits.length+1:=by simp[ClD.atoms]
    by_cases hjl:j<d.lits.length+1
    ·obtain⟨a0,a1,a2,a3,a4⟩:=atom_at hA hal j (by omega);have hdrop:=pairs_at d j (by omega);have hkl:=(hwf.words _ (List.getElem_mem (show j<d.atoms.length by omega))).1;obtain⟨a,ha⟩:∃a,d.atoms[j]=a:=⟨_,rfl⟩;simp only[ha]at a0 a1 a2 a3 a4 hdrop hkl;have HDR:=hid hdrop;clear ha hdrop;obtain⟨nm,ts⟩:=a;have a0':wr.cell? ⟨ga,j*5,none⟩=some (.string (bs nm)):=a0;have a1':wr.cell? ⟨ga,j*5+1,none⟩=some (.int .i64 (ts.length:Nat)):=a1;clear a0 a1;have hkm:nm.length<=maxLen:=by unfold maxLen;simp only[]at hkl;omega
     have hbe:Below wr.heap.size wr (wr.alloc (.cells #[Value.string (bs nm),.int .i64 (ts.length:Nat),.string (atT (nm,ts) 0),.string (atT (nm,ts) 1),.string (atT (nm,ts) 2)] 54)):=below_alloc _ _;cases hx:hasW xs nm
     ·have HN:Hid (cntGo (xs++[nm],ns++[ts.length]) (d.pairs.drop (j+1)++(ds.drop (k+1)).flatMap ClD.pairs)=countsR ds):=by show _=_;rw[<-HX.out,HDR.out];simp[cntGo,cntStep,hx]
      go_wp2_with (go_at_call 56;refine(fits_new _ w.heap.size w.heap.size mv lv cv xs ns nm ts.length _ _ _ (by exact hC.alloc _) (by exact hCI.below hbe) hkm hx (by omega) (by simp;omega)).mono ?_;rintro e w2 ⟨rfl,mv',lv',cv',hC2,hCI2,hX2⟩);have hB2:Below w.heap.size w w2:=(hB.trans (hbe.mono (by omega))).trans (hX2.toBelow (Nat.le_refl _));exact⟨⟨j+1,xs++[nm],ns++[ts.length],mv',lv',cv',hjl,by go_num,by simp;omega,HN,hC2,hCI2,hX2.own (hA.alloc _) (own_ne hA hC (by decide)) (by decide),hB2⟩,by simp[intOf];omega⟩
     ·have HN:Hid (cntGo (xs,ns) (d.pairs.drop (j+1)++(ds.drop (k+1)).flatMap ClD.pairs)=countsR ds):=by show _=_;rw[<-HX.out,HDR.out];simp[cntGo,cntStep,hx]
      go_wp2_with (go_at_call 56;refine(fits_old _ w.heap.size w.heap.size mv lv cv xs ns nm _ _ _ _ (by exact hC.alloc _) (by exact hCI.below hbe) hkm hx).mono ?_;rintro e w2 ⟨rfl,hB2⟩);have hBB:=hbe.trans (hB2.mono (by simp));exact⟨⟨j+1,xs,ns,mv,lv,cv,hjl,by go_num,by omega,HN,hC.below hBB,hCI.below hBB,own_below hA hBB,hB.trans (hBB.mono (by omega))⟩,by simp[intOf];omega⟩
    ·have hje:j=d.lits.length+1:=by omega
     have HN:Hid (cntGo (xs,ns) ((ds.drop (k+1)).flatMap ClD.pairs)=countsR ds):=by
      show _=_;rw[<-HX.out,hje];have:d.pairs.drop (d.lits.length+1)=[]:=by apply List.drop_eq_nil_of_le;simp[ClD.pairs,ClD.atoms]
      rw[this,List.nil_append]
     clear hje;go_wp2;exact⟨⟨k+1,xs,ns,mv,lv,cv,hlt,by go_num,by omega,HN,hC,hCI,hB⟩,by simp[intOf];omega⟩
  ·have hke:k=ds.length:=by omega
   have HE:Hid ((xs,ns)=countsR ds):=by show _=_;rw[<-HX.out,hke,List.drop_length];rfl
   clear hke;go_wp2
   go_ret
   rw[<-HE.out];exact⟨mv,lv,cv,rfl,hC,hCI,by simp only[];omega,hB⟩
end
end Go.Proofs.YtpbfiffgcgnidaaGreat
