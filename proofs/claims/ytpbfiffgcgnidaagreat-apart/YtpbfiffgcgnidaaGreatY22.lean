import Derived.Test.YtpbfiffgcgnidaaGreatYal
import Derived.Test.YtpbfiffgcgnidaaGreatY13
import Derived.Test.YtpbfiffgcgnidaaGreatY14
namespace Go.Proofs.YtpbfiffgcgnidaaGreat
set_option maxRecDepth 100000
set_option maxHeartbeats 4000000
set_option linter.unusedSimpArgs false
open Go.Proofs.Tryz
section
attribute [local go_sem] drewN_alloc drewN_setCell
open Go.RowKit Go.WideMaps Go.Maps
def layLits(ds:List ClD)(d:ClD):Nat->List LitD->Option Nat
 |_,[]=>none
 |i,l::r=>if(l.neg&&hasW (needsR ds l.name) d.name)=true then some ((d.spots.map fun s=>s.mark).getD (1+i) 0) else layLits ds d (i+1) r
def layGo(ds:List ClD):List ClD->Option Nat
 |[]=>none
 |d::r=>(layLits ds d 0 d.lits).or (layGo ds r)
def layersR(ds:List ClD):Option Nat:=layGo ds ds
theorem PlacedIs.below{w w':World}{base:Nat}{d:ClD}{cs:List Value}(h:PlacedIs w base d cs)(hb:Below w.heap.size w w'):PlacedIs w' base d cs:=by obtain⟨bv,sv,hc,hl,hs⟩:=h;exact⟨bv,sv,hc,own_below hl hb,own_below hs hb⟩
theorem ProgIs.below{w w':World}{base:Nat}{v:Value}{ds:List ClD}(h:ProgIs w base v ds)(hb:Below w.heap.size w w'):ProgIs w' base v ds:=by obtain⟨rows,ho,hl,hr⟩:=h;exact⟨rows,own_below ho hb,hl,fun i d cs hd hc=>(hr i d cs hd hc).below hb⟩
theorem layers_c(w:World)(base:Nat)(ao:Option Addr)(cap:Nat)(ds:List ClD)(hP:ProgIs w base (.slice ao ds.length cap) ds)(hW:∀d∈ds,d.WF)(hn:ds.length<=40):
 Calls prog 50 #[.slice ao ds.length cap] w fun e w'=>e=.returned (foundV (layersR ds))/\Below w.heap.size w w':=by
 go_enter func50,ntmps50;go_wp2
 go_loopw [10] (fun i wr=>∃(k:Nat),k<=ds.length/\i=.int .i64 k/\Hid (layGo ds (ds.drop k)=layersR ds)/\Below w.heap.size w wr) (fun i _=>ds.length-(intOf i).toNat)
 case atStart=>exact⟨0,by omega,rfl,rfl,Below.refl _ _⟩
 case round=>
  obtain⟨k,hk,rfl,HX,hB⟩:=hrel;by_cases hlt:k<ds.length
  ·obtain⟨g,bo,bcap,so,scap,hao,hg,e0,e1,e2,e3,e4,e5,e6,hLb,hSp⟩:=placed_at hP k hlt;subst hao;have hwf:=hW ds[k] (List.getElem_mem hlt);have HD:Hid (layGo ds (ds.drop k)=(layLits ds ds[k] 0 ds[k].lits).or (layGo ds (ds.drop (k+1)))):=by show layGo ds (ds.drop k)=_;rw[List.drop_eq_getElem_cons hlt];rfl
   have hnm0:ds[k].nm=bs ds[k].name:=rfl;rw[hnm0]at e0;generalize hdk:ds[k]=d at*;clear hdk hnm0;have hbw:w.heap.size<=wr.heap.size:=hB.size;have hl4:=hwf.lits;have HSL:=hid hwf.spots;have hdn:=(hwf.words (d.name,d.ts) (by simp[ClD.atoms])).1;rw[<-hB.cell (p:=⟨g,k*7,none⟩) hg]at e0;rw[<-hB.cell (p:=⟨g,k*7+1,none⟩) hg]at e1;rw[<-hB.cell (p:=⟨g,k*7+2,none⟩) hg]at e2;rw[<-hB.cell (p:=⟨g,k*7+3,none⟩) hg]at e3;rw[<-hB.cell (p:=⟨g,k*7+4,none⟩) hg]at e4;rw[<-hB.cell (p:=⟨g,k*7+5,none⟩) hg]at e5;rw[<-hB.cell (p:=⟨g,k*7+6,none⟩) hg]at e6;have hbx0:=Blk.new wr [Value.string (bs d.name),.int .i64 d.cn,.string (d.t 0),.string (d.t 1),.string (d.t 2),.slice bo d.lits.length bcap,.slice so d.spots.length scap] 124;have hB0:=hB.alloc hbw (.cells #[Value.string (bs d.name),.int .i64 d.cn,.string (d.t 0),.string (d.t 1),.string (d.t 2),.slice bo d.lits.length bcap,.slice so d.spots.length scap] 124);go_wp2_with fail;clear e0 e1 e2 e3 e4 e5 e6 hB;generalize wr.heap.size=R at*
   go_loopw [18] (fun jv wq=>∃(j:Nat),j<=d.lits.length/\jv=.int .i64 j/\Hid ((layLits ds d j (d.lits.drop j)).or (layGo ds (ds.drop (k+1)))=layersR ds)/\Blk wq R [Value.string (bs d.name),.int .i64 d.cn,.string (d.t 0),.string (d.t 1),.string (d.t 2),.slice bo d.lits.length bcap,.slice so d.spots.length scap] 124/\Below w.heap.size w wq) (fun jv _=>d.lits.length-(intOf jv).toNat)
   case atStart=>refine⟨0,by omega,rfl,?_,hbx0,hB0⟩;show _=_;rw[<-HX.out,HD.out];rfl
   case round=>
    clear hbx0 hB0;obtain⟨j,hj,rfl,HY,hbx,hB⟩:=hrel;have hbw1:R<wr.heap.size:=hbx.lt;have hbw2:w.heap.size<=wr.heap.size:=hB.size;by_cases hjl:j<d.lits.length
    ·obtain⟨g0,hao,hg0,l0,l1,l2,l3,l4,l5⟩:=lits_at (own_below hLb hB) j hjl;subst hao;have hdj:=List.drop_eq_getElem_cons hjl;have hln:=(hwf.words (d.lits[j].name,d.lits[j].ts) (by simp only[ClD.atoms,List.mem_cons,List.mem_map];exact .inr ⟨d.lits[j],List.getElem_mem hjl,rfl⟩)).1;have hlnm:d.lits[j].nm=bs d.lits[j].name:=rfl;rw[hlnm]at l0;generalize hlk:d.lits[j]=L at*;have HDJ:=hid hdj;clear hlk hlnm hdj;have hlx:=Blk.new wr [Value.string (bs L.name),.int .i64 L.cn,.string (L.t 0),.string (L.t 1),.string (L.t 2),.bool L.neg] 130;cases hng:L.neg
     ·have HN:Hid ((layLits ds d (j+1) (d.lits.drop (j+1))).or (layGo ds (ds.drop (k+1)))=layersR ds):=by show _=_;rw[<-HY.out,HDJ.out];simp[layLits,hng]
      rw[hng]at l5;go_wp2_with fail;exact⟨⟨j+1,hjl,by go_num,HN,hbx.alloc _,hB.alloc hbw2 _⟩,by simp[intOf];omega⟩
     ·rw[hng]at l5 hlx;obtain⟨f0,f1,f2,f3,f4,f5,f6⟩:=hbx.c7;have hrw:R<wr.heap.size+1:=by omega
      have hP1:=(hP.below hB).alloc (.cells #[Value.string (bs L.name),.int .i64 L.cn,.string (L.t 0),.string (L.t 1),.string (L.t 2),.bool true] 130);go_wp2_with fail;obtain⟨hb,hhb⟩:∃hb,hasW (needsR ds L.name) d.name=hb:=⟨_,rfl⟩
      go_cut [35] from 19 to 43 (fun q wx=>q=.bool hb/\Blk wx R [Value.string (bs d.name),.int .i64 d.cn,.string (d.t 0),.string (d.t 1),.string (d.t 2),.slice (some ⟨g0,0,none⟩) d.lits.length bcap,.slice so d.spots.length scap] 124/\Below w.heap.size w wx)
      case first=>
          go_region_with (first|(go_at_call 77;refine(needs_c _ base _ cap ds L.name (by exact hP1) hW hn (by omega)).mono ?_;rintro e w2 ⟨tb,mv,lv,rfl,htb,hC2,hS2,hB2⟩;have hbx2:=(hbx.alloc _).drew.below hB2;have hBB2:=(hB.alloc hbw2 _).drew.trans (hB2.mono (by simp;omega));obtain⟨h0,h1,h2,h3,h4,h5,h6⟩:=hbx2.c7)|(go_at_call 76;refine(has_c _ _ tb mv lv [] 100 (needsR ds L.name) d.name (by exact hC2) (by exact hS2) (by unfold maxLen;omega)).mono ?_;rintro e w3 ⟨he,rfl⟩;rw[hhb]at he;subst he))
          all_goals go_wp2_with fail
          all_goals go_meet
          all_goals exact⟨rfl,hbx2,hBB2⟩
      case rest=>
          clear f0 f1 f2 f3 f4 f5 f6 hlx hP1 hbx hB hbw1 hbw2 hrw;obtain⟨rfl,hbx,hB⟩:=hcut;cases hb
          ·have HN:Hid ((layLits ds d (j+1) (d.lits.drop (j+1))).or (layGo ds (ds.drop (k+1)))=layersR ds):=by show _=_;rw[<-HY.out,HDJ.out];simp[layLits,hng,hhb]
           clear hhb;go_wp2_with fail;exact⟨⟨j+1,hjl,by go_num,HN,hbx,hB⟩,by simp[intOf];omega⟩
          ·have hjs:1+j<d.spots.length:=by rw[HSL.out];omega
           have HE:Hid (layersR ds=some (d.spots[1+j]).mark):=by show _=_;rw[<-HY.out,HDJ.out];simp[layLits,hng,hhb,hjs]
           obtain⟨gs,hso,hgs,s0,s1,s2,s3,s4⟩:=spot_at hSp (1+j) hjs;subst hso;rw[<-hB.cell (p:=⟨gs,(1+j)*5,none⟩) hgs]at s0;obtain⟨q,hq⟩:∃q:Nat,(d.spots[1+j]).mark=q:=⟨_,rfl⟩;rw[hq]at s0 HE;clear hq hhb s1 s2 s3 s4;obtain⟨f0,f1,f2,f3,f4,f5,f6⟩:=hbx.c7;go_wp2_with fail;go_ret2;rw[HE.out];exact⟨rfl,hB⟩
    ·have HN:Hid (layGo ds (ds.drop (k+1))=layersR ds):=by show _=_;rw[<-HY.out,show d.lits.drop j=[] from List.drop_of_length_le (by omega)];simp[layLits]
     go_wp2;exact⟨⟨k+1,hlt,by go_num,HN,hB⟩,by simp[intOf];omega⟩
  ·have hke:k=ds.length:=by omega
   have HE:Hid (layersR ds=none):=by show layersR ds=none;rw[<-HX.out,hke,List.drop_length];rfl
   clear hke;go_wp2;go_ret2;rw[HE.out];exact⟨rfl,hB⟩
end
section
open Go.RowKit Go.WideMaps Go.Maps
def faultR(ds:List ClD):Nat×Nat:=
 match arityR ds with
 |some p=>(3,p)
 |none=>match openR ds with
  |some p=>(4,p)
  |none=>match layersR ds with
   |some p=>(5,p)
   |none=>(0,0)
theorem findFault_c(w:World)(base:Nat)(ao:Option Addr)(cap:Nat)(ds:List ClD)(hP:ProgIs w base (.slice ao ds.length cap) ds)(hW:∀d∈ds,d.WF)(hn:ds.length<=40):
 Calls prog 31 #[.slice ao ds.length cap] w fun e w'=>e=.returned (.tuple #[.int .i64 (faultR ds).1,.int .i64 (faultR ds).2])/\Below w.heap.size w w':=by
 cases h1:arityR ds with
 |some p=>have HE:=hid (show faultR ds=(3,p) by simp[faultR,h1]);go_enter func31,ntmps31;go_wp2_with (go_at_call 48;refine(arity_c _ base ao cap ds (by exact hP) hW hn).mono ?_;rintro e w1 ⟨he,hB1⟩;rw[h1]at he;simp only[foundV]at he;subst he);go_ret2;rw[HE.out];exact⟨rfl,hB1⟩
 |none=>
  cases h2:openR ds with
  |some p=>have HE:=hid (show faultR ds=(4,p) by simp[faultR,h1,h2]);go_enter func31,ntmps31;go_wp2_with (first|(go_at_call 48;refine(arity_c _ base ao cap ds (by exact hP) hW hn).mono ?_;rintro e w1 ⟨he,hB1⟩;rw[h1]at he;simp only[foundV]at he;subst he)|(go_at_call 49;refine(open_c _ base ao cap ds (by exact hP.below hB1) hW hn).mono ?_;rintro e w2 ⟨he,hB2⟩;rw[h2]at he;simp only[foundV]at he;subst he));go_ret2;rw[HE.out];exact⟨rfl,hB1.trans (hB2.mono hB1.size)⟩
  |none=>
   cases h3:layersR ds with
   |some p=>have HE:=hid (show faultR ds=(5,p) by simp[faultR,h1,h2,h3]);go_enter func31,ntmps31;go_wp2_with (first|(go_at_call 48;refine(arity_c _ base ao cap ds (by exact hP) hW hn).mono ?_;rintro e w1 ⟨he,hB1⟩;rw[h1]at he;simp only[foundV]at he;subst he)|(go_at_call 49;refine(open_c _ base ao cap ds (by exact hP.below hB1) hW hn).mono ?_;rintro e w2 ⟨he,hB2⟩;rw[h2]at he;simp only[foundV]at he;subst he)|(go_at_call 50;refine(layers_c _ base ao cap ds (by exact(hP.below hB1).below hB2) hW hn).mono ?_;rintro e w3 ⟨he,hB3⟩;rw[h3]at he;simp only[foundV]at he;subst he));go_ret2;rw[HE.out];exact⟨rfl,(hB1.trans (hB2.mono hB1.size)).trans (hB3.mono (Nat.le_trans hB1.size hB2.size))⟩
   |none=>have HE:=hid (show faultR ds=(0,0) by simp[faultR,h1,h2,h3]);go_enter func31,ntmps31;go_wp2_with (first|(go_at_call 48;refine(arity_c _ base ao cap ds (by exact hP) hW hn).mono ?_;rintro e w1 ⟨he,hB1⟩;rw[h1]at he;simp only[foundV]at he;subst he)|(go_at_call 49;refine(open_c _ base ao cap ds (by exact hP.below hB1) hW hn).mono ?_;rintro e w2 ⟨he,hB2⟩;rw[h2]at he;simp only[foundV]at he;subst he)|(go_at_call 50;refine(layers_c _ base ao cap ds (by exact(hP.below hB1).below hB2) hW hn).mono ?_;rintro e w3 ⟨he,hB3⟩;rw[h3]at he;simp only[foundV]at he;subst he));go_ret2;rw[HE.out];exact⟨rfl,(hB1.trans (hB2.mono hB1.size)).trans (hB3.mono (Nat.le_trans hB1.size hB2.size))⟩
end
section
structure AtR.WF(r:AtR):Prop where
 name:r.name.length<=12
 ts:r.ts.length<=3
 words:∀t∈r.ts,t.length<=12
 ps:r.ps.length<=3
theorem take_wlen(fits:Int->Bool)(m:B8):(m.take (wlen fits 12 m)).length<=12:=by have:=(wlen_le fits 12 m).2;simp;omega
theorem termW_le(l:B8):(termW l).length<=12:=by
 unfold termW termN
 split
 ·exact take_wlen _ _
 ·split
  ·exact take_wlen _ _
  ·simp
theorem argsR_wf(s:ByteArray)(name:B8)(np:Nat)(hn:name.length<=12):∀(f:Nat) (ts:List B8) (ps:List Nat) (l:B8),ts.length+f<=3->ps.length+f<=3->(∀t∈ts,t.length<=12)->(argsR s name np f ts ps l).WF:=by
 intro f
 induction f with
 |zero=>intro ts ps l h1 h2 h3;exact⟨hn,h1,h3,h2⟩
 |succ f ih=>
  intro ts ps l h1 h2 h3
  have h4:∀t∈ts++[termW l],t.length<=12:=by
   intro t ht;simp at ht;rcases ht with ht|rfl
   ·exact h3 t ht
   ·exact termW_le l
  have h5:(ts++[termW l]).length+f<=3:=by simp;omega
  have h6:(ps++[posOf s (skipL l)]).length+f<=3:=by simp;omega
  unfold argsR
  split
  ·exact⟨by simp,by simp,by simp,by simp⟩
  ·split
   ·exact⟨hn,by simp only[];omega,h4,by simp only[];omega⟩
   ·split
    ·exact⟨hn,by simp only[];omega,h4,by simp only[];omega⟩
    ·exact ih _ _ _ h5 h6 h4
theorem atomR_wf(s:ByteArray)(l:B8):(atomR s l).WF:=by
 unfold atomR;dsimp only
 split
 ·exact⟨by simp,by simp,by simp,by simp⟩
 ·split
  ·exact⟨take_wlen _ _,by simp,by simp,by simp⟩
  ·exact argsR_wf s _ _ (take_wlen _ _) 3 [] [] _ (by simp) (by simp) (by simp)
def LitD.ok(d:LitD):Prop:=d.name.length<=12/\d.ts.length<=3/\∀t∈d.ts,t.length<=12
def SpotD.ok(d:SpotD):Prop:=d.ps.length<=3
theorem litD_ok(s:ByteArray)(l:B8):(litD s l).ok/\(spotD s l).ok:=
 let h:=atomR_wf s (tookL l 33)
 ⟨⟨h.name,h.ts,h.words⟩,h.ps⟩
structure BoR.WF(r:BoR)(n m:Nat):Prop where
 lits:r.lits.length<=4
 spots:r.spots.length+n=r.lits.length+m
 lok:∀l∈r.lits,l.ok
 sok:∀p∈r.spots,p.ok
theorem litsR_wf(s:ByteArray):∀(f:Nat) (ls:List LitD) (ps:List SpotD) (l:B8),ls.length+f<=4->(∀d∈ls,d.ok)->(∀p∈ps,p.ok)->(litsR s f ls ps l).WF ls.length ps.length:=by
 intro f
 induction f with
 |zero=>intro ls ps l h1 h2 h3;exact⟨h1,by simp[litsR];omega,h2,h3⟩
 |succ f ih=>
  intro ls ps l h1 h2 h3
  have h4:∀d∈ls++[litD s l],d.ok:=by
   intro d hd;simp at hd;rcases hd with hd|rfl
   ·exact h2 d hd
   ·exact(litD_ok s l).1
  have h5:∀p∈ps++[spotD s l],p.ok:=by
   intro p hp;simp at hp;rcases hp with hp|rfl
   ·exact h3 p hp
   ·exact(litD_ok s l).2
  unfold litsR
  split
  ·exact⟨by simp only[];omega,by simp only[];omega,h2,h3⟩
  ·split
   ·exact⟨by simp;omega,by simp;omega,h4,h5⟩
   ·split
    ·exact⟨by simp;omega,by simp;omega,h4,h5⟩
    ·have:=ih (ls++[litD s l]) (ps++[spotD s l]) (tookL (litAt s l).rest 44) (by simp;omega) h4 h5;exact⟨this.lits,by have h:=this.spots;simp at h;omega,this.lok,this.sok⟩
theorem bodyR_wf(s:ByteArray)(p:SpotD)(l:B8)(hp:p.ok):(bodyR s [p] l).WF 0 1:=by
 unfold bodyR
 split
 ·exact⟨by simp,by simp,by simp,by simpa using hp⟩
 ·exact litsR_wf s 4 [] [p] l.tail (by simp) (by simp) (by simpa using hp)
theorem clauseR_wf(s:ByteArray)(l:B8)(hok:(clauseR s l).ok=true):(clauseR s l).d.WF:=by
 have hA:=atomR_wf s l;have hH:(headSpot s l).ok:=hA.ps
 have mk:∀(lits:List LitD) (spots:List SpotD),lits.length<=4->spots.length=lits.length+1->(∀d∈lits,d.ok)->(∀p∈spots,p.ok)->ClD.WF ⟨(atomR s l).name,(atomR s l).ts,lits,spots⟩:=by
  intro lits spots h1 h2 h3 h4;refine⟨h2,h1,?_,h4⟩;intro a ha;simp only[ClD.atoms,List.mem_cons,List.mem_map]at ha;rcases ha with rfl|⟨d,hd,rfl⟩
  ·exact⟨hA.name,hA.ts,hA.words⟩
  ·exact h3 d hd
 unfold clauseR at hok⊢
 split at hok
 ·simp at hok
 ·next h1=>
  split at hok
  ·next h2=>
   rw[if_neg h1,if_pos h2];exact mk [] [headSpot s l] (by simp) (by simp) (by simp) (by simpa using hH)
  ·next h2=>
   split at hok
   ·simp at hok
   ·next h3=>
    rw[if_neg h1,if_neg h2,if_neg h3];have hB:=bodyR_wf s (headSpot s l) (tookL (atomR s l).rest 58) hH;exact mk _ _ hB.lits (by have:=hB.spots;omega) hB.lok hB.sok
theorem progR_wf(s:ByteArray):∀(f:Nat) (ds:List ClD) (l:B8),ds.length+f<=40->(∀d∈ds,d.WF)->(progR s f ds l).cls.length<=40/\∀d∈(progR s f ds l).cls,d.WF:=by
 intro f
 induction f with
 |zero=>intro ds l h1 h2;unfold progR;split<;>exact⟨h1,h2⟩
 |succ f ih=>
  intro ds l h1 h2;unfold progR
  split
  ·exact⟨by simp only[];omega,h2⟩
  ·split
   ·exact⟨by simp only[];omega,h2⟩
   ·next hok=>
    refine ih _ _ (by simp;omega) ?_;intro d hd;simp at hd;rcases hd with hd|rfl
    ·exact h2 d hd
    ·exact clauseR_wf s _ (by simpa using hok)
theorem programR_wf(s:ByteArray):(programR s).cls.length<=40/\∀d∈(programR s).cls,d.WF:=progR_wf s 40 [] _ (by simp) (by simp)
end
section
attribute [local go_sem] drewN_alloc drewN_setCell
open Go.RowKit Go.WideMaps Go.Maps
def KeptIs(w:World)(base:Nat)(d:ClD)(cs:List Value):Prop:=∃bv,cs=atomCells d.name d.ts++[bv]/\w.ownsRow base 130 6 bv d.lits.length (d.lits.flatMap LitD.cells)
def ClausesIs(w:World)(base:Nat)(v:Value)(ds:List ClD):Prop:=
 ∃rows:List (List Value),w.ownsRow base 60 6 v ds.length rows.flatten/\rows.length=ds.length/\∀(i:Nat) (d:ClD) (cs:List Value),ds[i]? =some d->rows[i]? =some cs->KeptIs w base d cs
def BaseIs(w:World)(base bb:Nat)(ds:List ClD):Prop:=∃v,Blk w bb [v] 51/\ClausesIs w base v ds
theorem KeptIs.below{w w':World}{base:Nat}{d:ClD}{cs:List Value}(h:KeptIs w base d cs)(hb:Below w.heap.size w w'):KeptIs w' base d cs:=by obtain⟨bv,hc,hl⟩:=h;exact⟨bv,hc,own_below hl hb⟩
theorem ClausesIs.below{w w':World}{base:Nat}{v:Value}{ds:List ClD}(h:ClausesIs w base v ds)(hb:Below w.heap.size w w'):ClausesIs w' base v ds:=by obtain⟨rows,ho,hl,hr⟩:=h;exact⟨rows,own_below ho hb,hl,fun i d cs hd hc=>(hr i d cs hd hc).below hb⟩
theorem BaseIs.below{w w':World}{base bb:Nat}{ds:List ClD}(h:BaseIs w base bb ds)(hb:Below w.heap.size w w'):BaseIs w' base bb ds:=by obtain⟨v,h1,h2⟩:=h;exact⟨v,h1.below hb,h2.below hb⟩
theorem KeptIs.set{w:World}{base:Nat}{d:ClD}{cs:List Value}(h:KeptIs w base d cs){b:Nat}{bcs:List Value}{t:TypeId}(hb:Blk w b bcs t)(ht:t≠130)(o:Nat)(x:Value):KeptIs (w.setCell ⟨b,o,none⟩ x) base d cs:=by obtain⟨bv,hc,hl⟩:=h;exact⟨bv,hc,own_set hl ⟨b,o,none⟩ x (own_ne hl hb ht)⟩
theorem ClausesIs.set{w:World}{base:Nat}{v:Value}{ds:List ClD}(h:ClausesIs w base v ds){b:Nat}{bcs:List Value}{t:TypeId}(hb:Blk w b bcs t)(h1:t≠60)(h2:t≠130)(o:Nat)(x:Value):ClausesIs (w.setCell ⟨b,o,none⟩ x) base v ds:=by obtain⟨rows,ho,hl,hr⟩:=h;exact⟨rows,own_set ho ⟨b,o,none⟩ x (own_ne ho hb h1),hl,fun i d cs hd hc=>(hr i d cs hd hc).set hb h2 o x⟩
theorem ClausesIs.nil(w:World)(base:Nat):ClausesIs w base (.slice none 0 0) []:=⟨[],World.ownsRow_nil _ _ _ _,rfl,by simp⟩
theorem ClausesIs.form{w:World}{base:Nat}{v:Value}{ds:List ClD}(h:ClausesIs w base v ds):∃ao cap,v=.slice ao ds.length cap:=by obtain⟨rows,ho,hl,hr⟩:=h;exact own_form ho
theorem ClausesIs.more{w w':World}{base:Nat}{v v':Value}{ds:List ClD}{d:ClD}{cs:List Value}{rows:List (List Value)}(hr:∀(i:Nat) (d:ClD) (cs:List Value),ds[i]? =some d->rows[i]? =some cs->KeptIs w base d cs)(hl:rows.length=ds.length)
 (ho:w.ownsRow base 60 6 v ds.length rows.flatten)(hd:KeptIs w base d cs)
 (ho':w'.ownsRow base 60 6 v' (ds.length+1) (rows.flatten++cs))(hg:w.grownBy w' v.ownBlock):ClausesIs w' base v' (ds++[d]):=by
 have step:∀d cs,KeptIs w base d cs->KeptIs w' base d cs:=by rintro d cs ⟨bv,hc,hlb⟩;exact⟨bv,hc,hlb.kept hg (own_ne2 hlb ho (by decide))⟩
 refine⟨rows++[cs],by simpa using ho',by simp[hl],?_⟩;intro i d' cs' h1 h2;by_cases hi:i<ds.length
 ·rw[List.getElem?_append_left hi]at h1;rw[List.getElem?_append_left (by omega)]at h2;exact step _ _ (hr i d' cs' h1 h2)
 ·rw[List.getElem?_append_right (by omega)]at h1;rw[List.getElem?_append_right (by omega),hl]at h2
  cases hk:i-ds.length with
  |zero=>rw[hk]at h1 h2;simp at h1 h2;subst h1;subst h2;exact step _ _ hd
  |succ k=>rw[hk]at h1;simp at h1
theorem own_up{w:World}{base base':Nat}{e:TypeId}{size g n cap m:Nat}{xs:List Value}(h:w.ownsRow base e size (.slice (some ⟨g,0,none⟩) n cap) m xs)(hb:base'<=g):w.ownsRow base' e size (.slice (some ⟨g,0,none⟩) n cap) m xs:=by
 refine⟨h.1,?_⟩;rcases h.2 with⟨h1,_⟩|⟨g',cap',cur,hv,hg,r⟩
 ·simp at h1
 ·refine .inr ⟨g',cap',cur,hv,?_,r⟩;simp at hv;omega
theorem infoClause:(prog.info? 60).map (fun i=>(i.zero,i.size,i.bytes))=some (some (.agg #[.string ⟨#[]⟩,.int .i64 0,.string ⟨#[]⟩,.string ⟨#[]⟩,.string ⟨#[]⟩,.slice none 0 0]),6,96):=by kernel_rfl
def loadE(s:ByteArray):Nat×Nat:=if 2000<s.size then(1,0) else if(programR s).ok=false then(2,posOf s (programR s).rest) else faultR (programR s).cls
def LoadPost(w:World)(s:ByteArray)(e:Ending)(w':World):Prop:=
 (if(loadE s).1=0 then ∃bb,e=.returned (.tuple #[.pointer (some ⟨bb,0,none⟩),.int .i64 0,.int .i64 0])/\w.heap.size<=bb/\BaseIs w' w.heap.size bb (programR s).cls
   else e=.returned (.tuple #[.pointer none,.int .i64 (loadE s).1,.int .i64 (loadE s).2]))/\Below w.heap.size w w'
theorem fault_zero(ds:List ClD)(h:(faultR ds).1=0):faultR ds=(0,0):=by
 unfold faultR at*
 split at h
 ·simp at h
 ·split at h
  ·simp at h
  ·split at h
   ·simp at h
   ·rfl
theorem load_long(w:World)(s:ByteArray)(hs:s.size<=maxLen)(h:2000<s.size):Calls prog 22 #[.string s] w fun e w'=>LoadPost w s e w':=by
 have HE:=hid (show loadE s=(1,0) by simp[loadE,h]);have hs':=hs;unfold maxLen at hs';have hq:(2000:Int)<(s.size:Int):=by omega
 go_enter func22,ntmps22;go_wp2
 go_ret3
 unfold LoadPost;rw[HE.out];exact⟨rfl,Below.refl _ _⟩
theorem load_form(w:World)(s:ByteArray)(h:s.size<=2000)(hok:(programR s).ok=false):Calls prog 22 #[.string s] w fun e w'=>LoadPost w s e w':=by
 have HE:=hid (show loadE s=(2,posOf s (programR s).rest) by simp[loadE,hok,show ¬2000<s.size by omega]);have hq:¬((2000:Int)<(s.size:Int)):=by omega
 go_enter func22,ntmps22;go_wp2_with (go_at_call 30;refine(readProgram_l _ s (by omega)).mono ?_;rintro e w1 ⟨v,he,-,hB1⟩;simp only[progV,hok]at he;subst he)
 go_ret3
 unfold LoadPost;rw[HE.out];exact⟨rfl,hB1⟩
theorem load_fault(w:World)(s:ByteArray)(h:s.size<=2000)(hok:(programR s).ok=true)(hf:(faultR (programR s).cls).1≠0):Calls prog 22 #[.string s] w fun e w'=>LoadPost w s e w':=by
 have HE:=hid (show loadE s=faultR (programR s).cls by simp[loadE,hok,show ¬2000<s.size by omega]);have hq:¬((2000:Int)<(s.size:Int)):=by omega
 have hwf:=programR_wf s;obtain⟨ds,HD⟩:∃ds,Hid (ds=(programR s).cls):=⟨_,rfl⟩;rw[<-HD.out]at hf hwf HE;obtain⟨f1,hf1⟩:∃f1,(faultR ds).1=f1:=⟨_,rfl⟩;obtain⟨f2,hf2⟩:∃f2,(faultR ds).2=f2:=⟨_,rfl⟩;have hne:(((f1:Nat):Int) != 0)=true:=by rw[bne_iff_ne];omega
 have H1:=hid hf1;have H2:=hid hf2;rw[hf1]at hf;clear hf1 hf2;go_enter func22,ntmps22;go_wp2_with (first|(go_at_call 30;refine(readProgram_l _ s (by omega)).mono ?_;rintro e w1 ⟨v,he,hPr,hB1⟩;simp only[progV,hok]at he;have hP1:=hPr hok;rw[<-HD.out]at hP1;obtain⟨ao,cap,rfl⟩:=hP1.form;subst he;clear hPr)|(go_at_call 31;refine(findFault_c _ w.heap.size ao cap ds (by exact hP1) hwf.2 hwf.1).mono ?_;rintro e w2 ⟨he,hB2⟩;rw[H1.out,H2.out]at he;subst he))
 go_ret3
 unfold LoadPost;rw[HE.out,H1.out,H2.out,if_neg hf];exact⟨rfl,hB1.trans (hB2.mono hB1.size)⟩
theorem clauses_c(w:World)(base:Nat)(ao:Option Addr)(cap:Nat)(ds:List ClD)(hP:ProgIs w base (.slice ao ds.length cap) ds)(hbw:base<=w.heap.size)(hn:ds.length<=40):
 Calls prog 32 #[.slice ao ds.length cap] w fun e w'=>∃v,e=.returned v/\ClausesIs w' base v ds/\Below w.heap.size w w':=by
 obtain⟨i1,hi1,hy0,hy1,hy2⟩:=info_parts infoClause;go_enter func32,ntmps32;go_wp2
 go_loopw [3,8] (fun v kv wr=>∃(k:Nat) (rows:List (List Value)),k<=ds.length/\kv=.int .i64 k/\wr.ownsRow w.heap.size 60 6 v k rows.flatten/\Hid (rows.length=k)/\
  (∀(i:Nat) (d:ClD) (cs:List Value),(ds.take k)[i]? =some d->rows[i]? =some cs->KeptIs wr base d cs)/\Below w.heap.size w wr) (fun _ kv _=>ds.length-(intOf kv).toNat)
 case atStart=>exact⟨0,[],by omega,rfl,World.ownsRow_nil _ _ _ _,rfl,by simp,Below.refl _ _⟩
 case round=>
  obtain⟨k,rows,hk,rfl,ho,HRL,hr,hB⟩:=hrel;obtain⟨vo,vcap,rfl⟩:=own_form ho;have hws:=hB.size;by_cases hlt:k<ds.length
  ·obtain⟨g,bo,bcap,so,scap,hao,hg,e0,e1,e2,e3,e4,e5,e6,hLb,hSp⟩:=placed_at (hP.below hB) k hlt;subst hao;have hdk0:(ds.take (k+1))=ds.take k++[ds[k]]:=List.take_succ_eq_append_getElem hlt;generalize hdk:ds[k]=d at*;have HDK:=hid hdk0;clear hdk hdk0;have hKd:KeptIs wr base d [Value.string d.nm,.int .i64 d.cn,.string (d.t 0),.string (d.t 1),.string (d.t 2),.slice bo d.lits.length bcap]:=⟨.slice bo d.lits.length bcap,rfl,hLb⟩;have hbs:=own_base ho;go_wp2_with (at_builtin;refine wpList_append_ownS _ rfl _ _ 49 rfl w.heap.size 60 i1 _ 6 96 underlying49 hi1 hy0 hy1 hy2 rfl (by decide) _ k rows.flatten rfl ((ho.alloc _).alloc _) ⟨wr.heap.size+1,0,none⟩ 1 [Value.string d.nm,.int .i64 d.cn,.string (d.t 0),.string (d.t 1),.string (d.t 2),.slice bo d.lits.length bcap] rfl rfl (new_cells2 _ _ _ _) (by intro u hu;simp at hu;rcases hu with rfl|rfl|rfl|rfl|rfl|rfl<;>rfl) (by unfold maxLen;omega) (by omega) (by simp;omega) ?_;intro g3 cap3 w3 ho3 hg3);have hkl:(ds.take k).length=k:=by simp;omega
   have h2:∀o2 o3,Below wr.heap.size wr ((wr.alloc o2).alloc o3):=fun o2 o3=>((Below.refl _ wr).alloc (Nat.le_refl _) o2).alloc (by simp) o3;have hmore:=ClausesIs.more (w:=(wr.alloc _).alloc _) (w':=w3) (base:=base) (ds:=ds.take k) (fun i d cs h1 h3=>(hr i d cs h1 h3).below (h2 _ _)) (by rw[HRL.out,hkl]) (by rw[hkl];exact own_mono ((ho.alloc _).alloc _) hbw) (hKd.below (h2 _ _)) (by rw[hkl];exact own_mono ho3 hbw) hg3;have hB3:Below w.heap.size w w3:=(hB.trans ((h2 _ _).mono hws)).grown hg3 (by simp;omega) hbs;obtain⟨rows3,hr1,hr2,hr3⟩:=hmore;rw[<-HDK.out]at hr1 hr2 hr3;have hkl2:(ds.take (k+1)).length=k+1:=by simp;omega
   rw[hkl2]at hr1 hr2;exact⟨⟨k+1,rows3,hlt,by go_num,own_up hr1 (own_base ho3 g3 rfl),hr2,hr3,hB3⟩,by simp[intOf];omega⟩
  ·have hke:k=ds.length:=by omega
   go_wp2
   go_ret
   subst hke;rw[List.take_length]at hr;exact⟨_,rfl,⟨rows,own_mono ho hbw,HRL.out,hr⟩,hB⟩
theorem load_ok(w:World)(s:ByteArray)(h:s.size<=2000)(hok:(programR s).ok=true)(hf:(faultR (programR s).cls).1=0):Calls prog 22 #[.string s] w fun e w'=>LoadPost w s e w':=by
 have hf0:=fault_zero _ hf;have HE:=hid (show loadE s=(0,0) by simp[loadE,hok,hf0,show ¬2000<s.size by omega]);have hq:¬((2000:Int)<(s.size:Int)):=by omega
 have hwf:=programR_wf s;obtain⟨ds,HD⟩:∃ds,Hid (ds=(programR s).cls):=⟨_,rfl⟩;rw[<-HD.out]at hf0 hwf;have HF:=hid hf0;clear hf0 hf;have hn:=hwf.1;go_enter func22,ntmps22;go_wp2_with (first|(go_at_call 30;refine(readProgram_l _ s (by omega)).mono ?_;rintro e w1 ⟨v,he,hPr,hB1⟩;simp only[progV,hok]at he;have hP1:=hPr hok;rw[<-HD.out]at hP1;obtain⟨ao,cap,rfl⟩:=hP1.form;subst he;clear hPr)|(go_at_call 31;refine(findFault_c _ w.heap.size ao cap ds (by exact hP1) hwf.2 hwf.1).mono ?_;rintro e w2 ⟨he,hB2⟩;rw[HF.out]at he;simp only[]at he;subst he)|(go_at_call 32;refine(clauses_c _ w.heap.size ao cap ds (by exact hP1.below hB2) (by have:=hB1.size;have:=hB2.size;omega) hwf.1).mono ?_;rintro e w3 ⟨v3,rfl,hC3,hB3⟩;obtain⟨ao3,cap3,rfl⟩:=hC3.form))
 go_ret3
 unfold LoadPost;rw[HE.out,<-HD.out];have hBw2:Below w.heap.size w w2:=hB1.trans (hB2.mono hB1.size);have hBw3:Below w.heap.size w w3:=hBw2.trans (hB3.mono hBw2.size);have hz:=hBw3.size;exact⟨⟨w3.heap.size,rfl,hz,_,Blk.new w3 [.slice ao3 ds.length cap3] 51,hC3.below (below_alloc w3 _)⟩,hBw3.alloc hz _⟩
theorem load_c(w:World)(s:ByteArray)(hs:s.size<=maxLen):Calls prog 22 #[.string s] w fun e w'=>LoadPost w s e w':=by
 by_cases h:2000<s.size
 ·exact load_long w s hs h
 ·cases hok:(programR s).ok
  ·exact load_form w s (by omega) hok
  ·by_cases hf:(faultR (programR s).cls).1=0
   ·exact load_ok w s (by omega) hok hf
   ·exact load_fault w s (by omega) hok hf
end
section
open Go.RowKit Go.WideMaps Go.Maps
theorem clause_at{w:World}{base:Nat}{ao:Option Addr}{cap:Nat}{ds:List ClD}(h:ClausesIs w base (.slice ao ds.length cap) ds)(i:Nat)(hi:i<ds.length):
 ∃g bo bcap,ao=some ⟨g,0,none⟩/\g<w.heap.size/\w.cell? ⟨g,i*6,none⟩=some (.string ds[i].nm)/\w.cell? ⟨g,i*6+1,none⟩=some (.int .i64 ds[i].cn)/\w.cell? ⟨g,i*6+2,none⟩=some (.string (ds[i].t 0))/\
  w.cell? ⟨g,i*6+3,none⟩=some (.string (ds[i].t 1))/\w.cell? ⟨g,i*6+4,none⟩=some (.string (ds[i].t 2))/\w.cell? ⟨g,i*6+5,none⟩=some (.slice bo ds[i].lits.length bcap)/\
  w.ownsRow base 130 6 (.slice bo ds[i].lits.length bcap) ds[i].lits.length (ds[i].lits.flatMap LitD.cells):=by
 obtain⟨rows,ho,hl,hr⟩:=h;have hall:∀r∈rows,r.length=6:=by intro r hr';obtain⟨j,hj,rfl⟩:=List.getElem_of_mem hr';obtain⟨bv,hc,_⟩:=hr j ds[j] rows[j] (by simp) (by simp);rw[hc];rfl
 obtain⟨g,rfl,hb,hc⟩:=own_at ho hall hl i hi;obtain⟨bv,hcs,hbv⟩:=hr i ds[i] rows[i] (by simp) (by simp);have e:rows.getD i []=rows[i]:=by simp[show i<rows.length by omega]
 rw[e,hcs]at hc;obtain⟨bo,bcap,rfl⟩:=own_form hbv;exact⟨g,bo,bcap,rfl,(ho.lt g rfl).2,hc 0 (by decide),hc 1 (by decide),hc 2 (by decide),hc 3 (by decide),hc 4 (by decide),hc 5 (by decide),hbv⟩
end
end Go.Proofs.YtpbfiffgcgnidaaGreat
