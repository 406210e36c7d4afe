import Derived.Test.YtpbfiffgcgnidaaGreatYal
import Derived.Deep.DeepFit
import Derived.Test.YtpbfiffgcgnidaaGreatY11
namespace Go.Proofs.YtpbfiffgcgnidaaGreat
set_option maxRecDepth 100000
set_option maxHeartbeats 4000000
set_option linter.unusedSimpArgs false
open Go.Proofs.Tryz
section
attribute [local go_sem] drewN_alloc drewN_setCell
open Go.RowKit Go.WideMaps Go.Maps
def addNames(xs:List B8)(ls:List LitD):List B8:=ls.foldl (fun xs l=>addW xs l.name) xs
theorem KeptX.mono{base sb:Nat}{T:List TypeId}{w w':World}(h:KeptX base sb T w w'){T':List TypeId}(hT:∀t,t∈T->t∈T'):KeptX base sb T' w w':=
 ⟨h.os,h.tape,h.output,h.size,h.low,fun k cs t h1 h2 h3=>h.ty k cs t h1 (fun h=>h2 (hT t h)) h3⟩
theorem KeptX.alloc{base sb:Nat}{T:List TypeId}(w:World)(o:Obj)(hb:base<=w.heap.size):KeptX base sb T w (w.alloc o):=KeptX.kept (Kept.alloc sb w o) hb
theorem addNames_snoc(xs:List B8)(ls:List LitD)(k:Nat)(h:k<ls.length):addNames xs (ls.take (k+1))=addW (addNames xs (ls.take k)) ls[k].name:=by unfold addNames;rw[List.take_succ_eq_append_getElem h,List.foldl_append];rfl
theorem addBody_c(w:World)(base base' sb:Nat)(mv lv:Value)(xs:List B8)(n0 t0 t1 t2:ByteArray)(c:Int)(ao:Option Addr)(cap:Nat)(lits:List LitD)
 (hC:Blk w sb [mv,lv] 100)(hS:SetIs w base mv lv xs)(hL:w.ownsRow base' 130 6 (.slice ao lits.length cap) lits.length (lits.flatMap LitD.cells))(hn:lits.length<=4)(hw:∀l∈lits,l.name.length<=12)(hx:xs.length<=10000)(hb:base<=w.heap.size):
 Calls prog 97 #[.pointer (some ⟨sb,0,none⟩),.agg #[.string n0,.int .i64 c,.string t0,.string t1,.string t2,.slice ao lits.length cap]] w fun e w'=>e=.returned (.tuple #[])/\
  ∃mv' lv',Blk w' sb [mv',lv'] 100/\SetIs w' base mv' lv' (addNames xs lits)/\KeptX base sb [9] w w':=by
 have hslt:=hC.lt;go_enter func97,ntmps97;go_wp2
 go_loopw [9] (fun i wr=>∃(k:Nat) (mv lv:Value),k<=lits.length/\i=.int .i64 k/\(addNames xs (lits.take k)).length<=xs.length+k/\Blk wr sb [mv,lv] 100/\SetIs wr base mv lv (addNames xs (lits.take k))/\KeptX base sb [9] w wr) (fun i _=>lits.length-(intOf i).toNat)
 case atStart=>exact⟨0,mv,lv,by omega,rfl,by simp[addNames],hC.alloc _,hS.alloc _,KeptX.alloc _ _ hb⟩
 case round=>
  obtain⟨k,mv1,lv1,hk,rfl,hxl,hC1,hS1,hX1⟩:=hrel;by_cases hlt:k<lits.length
  ·obtain⟨g0,rfl,hg0,e0,e1,e2,e3,e4,e5⟩:=lits_at (hX1.own hL (own_ne hL hC (by decide)) (by decide)) k hlt;have hwl:=hw lits[k] (List.getElem_mem hlt);have HT:=hid (addNames_snoc xs lits k hlt);have hnm:lits[k].nm=bs lits[k].name:=rfl;rw[hnm]at e0;generalize hlk:lits[k]=L at*;clear hlk hnm;generalize hys:addNames xs (lits.take k)=ys at*;clear hys;have hbw:base<=wr.heap.size:=by have:=hX1.size;omega
   have hal:=addW_len ys L.name;have hsw:sb<wr.heap.size:=hC1.lt;go_wp2_with (go_at_call 52;refine(add_any _ base sb mv1 lv1 100 ys L.name (by exact hC1.alloc _) (by exact hS1.alloc _) (by unfold maxLen;omega) (by omega) (by decide) (by simp;omega)).mono ?_;rintro e w2 ⟨pp,qq,mv',lv',rfl,hC2,hS2,hX2⟩);exact⟨⟨k+1,mv',lv',hlt,by go_num,by rw[HT.out];omega,hC2,by rw[HT.out];exact hS2,(hX1.trans (KeptX.alloc _ _ hbw)).trans hX2⟩,by simp[intOf];omega⟩
  ·have hke:k=lits.length:=by omega
   go_wp2
   go_end0
   subst hke;rw[List.take_length]at hS1;exact⟨rfl,mv1,lv1,hC1,hS1,hX1⟩
def needStep(ds:List ClD)(nm:B8)(xs:List B8):List B8:=ds.foldl (fun xs d=>if d.name=nm then addNames xs d.lits else xs) xs
def needGo(ds:List ClD):Nat->Nat->List B8->List B8
 |0,_,xs=>xs
 |f+1,i,xs=>if i<xs.length then needGo ds f (i+1) (needStep ds (xs.getD i []) xs) else xs
def allNames(ds:List ClD)(nm:B8):List B8:=nm::ds.flatMap fun d=>d.lits.map fun l=>l.name
def needsR(ds:List ClD)(nm:B8):List B8:=needGo ds (allNames ds nm).length 0 [nm]
theorem addW_sub{xs U:List B8}{k:B8}(h:∀x∈xs,x∈U)(hk:k∈U):∀x∈addW xs k,x∈U:=by
 unfold addW;split
 ·exact h
 ·intro x hx;simp at hx;rcases hx with hx|rfl
  ·exact h x hx
  ·exact hk
theorem addW_nodup{xs:List B8}{k:B8}(h:xs.Nodup):(addW xs k).Nodup:=by
 unfold addW;split
 ·exact h
 ·next hx=>
  have hk:k∉xs:=by simpa[hasW]using hx
  rw[List.nodup_append];exact⟨h,by simp,by intro a ha b hb;simp at hb;subst hb;intro e;exact hk (e▸ha)⟩
theorem addW_pre(xs:List B8)(k:B8):xs<+:addW xs k:=by unfold addW;split<;>simp
theorem addNames_inv(U:List B8)(ls:List LitD)(xs:List B8)(hl:∀l∈ls,l.name∈U)(h:xs.Nodup/\∀x∈xs,x∈U):((addNames xs ls).Nodup/\∀x∈addNames xs ls,x∈U)/\xs<+:addNames xs ls:=by
 induction ls generalizing xs with
 |nil=>exact⟨h,List.prefix_refl _⟩
 |cons l ls ih=>have:=ih (addW xs l.name) (fun l' h'=>hl l' (by simp[h'])) ⟨addW_nodup h.1,addW_sub h.2 (hl l (by simp))⟩;exact⟨this.1,(addW_pre xs l.name).trans this.2⟩
theorem needStep_inv(U:List B8)(ds:List ClD)(nm:B8)(xs:List B8)(hl:∀d∈ds,∀l∈d.lits,l.name∈U)(h:xs.Nodup/\∀x∈xs,x∈U):((needStep ds nm xs).Nodup/\∀x∈needStep ds nm xs,x∈U)/\xs<+:needStep ds nm xs:=by
 induction ds generalizing xs with
 |nil=>exact⟨h,List.prefix_refl _⟩
 |cons d ds ih=>
  unfold needStep;rw[List.foldl_cons];by_cases hd:d.name=nm
  ·rw[if_pos hd];have h1:=addNames_inv U d.lits xs (hl d (by simp)) h;have h2:=ih (addNames xs d.lits) (fun d' h'=>hl d' (by simp[h'])) h1.1;exact⟨h2.1,h1.2.trans h2.2⟩
  ·rw[if_neg hd];exact ih xs (fun d' h'=>hl d' (by simp[h'])) h
theorem sub_len{xs U:List B8}(h:xs.Nodup)(hs:∀x∈xs,x∈U):xs.length<=U.length:=h.length_le_of_subset hs
theorem allNames_len(ds:List ClD)(nm:B8)(hn:ds.length<=40)(hW:∀d∈ds,d.WF):(allNames ds nm).length<=161:=by
 have key:∀ds:List ClD,(∀d∈ds,d.WF)->(ds.flatMap fun d=>d.lits.map fun l=>l.name).length<=4*ds.length:=by
  intro ds
  induction ds with
  |nil=>intro _;simp
  |cons d ds ih=>intro h;have h1:=(h d (by simp)).lits;have h2:=ih (fun d' hd=>h d' (by simp[hd]));simp only[List.flatMap_cons,List.length_append,List.length_map,List.length_cons];omega
 have:=key ds hW;simp only[allNames,List.length_cons];omega
theorem lit_in(ds:List ClD)(nm:B8):∀d∈ds,∀l∈d.lits,l.name∈allNames ds nm:=by intro d hd l hl;simp only[allNames,List.mem_cons,List.mem_flatMap,List.mem_map];exact .inr ⟨d,hd,l,hl,rfl⟩
theorem needStep_snoc(ds:List ClD)(nm:B8)(xs:List B8)(k:Nat)(h:k<ds.length):needStep (ds.take (k+1)) nm xs=if ds[k].name=nm then addNames (needStep (ds.take k) nm xs) ds[k].lits else needStep (ds.take k) nm xs:=by unfold needStep;rw[List.take_succ_eq_append_getElem h,List.foldl_append];rfl
theorem bs_beq(a b:B8):((bs a).toList==(bs b).toList)=decide (a=b):=by rw[Lib.toList_data,Lib.toList_data];by_cases h:a=b<;>simp[bs,h]
theorem atW_pre{xs ys:List B8}(h:xs<+:ys)(i:Nat)(hi:i<xs.length):atW ys i=bs (xs.getD i []):=by obtain⟨r,rfl⟩:=h;simp[atW,List.getElem?_append_left hi]
theorem needs_c(w:World)(base:Nat)(ao:Option Addr)(cap:Nat)(ds:List ClD)(nm:B8)(hP:ProgIs w base (.slice ao ds.length cap) ds)(hW:∀d∈ds,d.WF)(hn:ds.length<=40)(hnm:nm.length<=12):
 Calls prog 77 #[.slice ao ds.length cap,.string (bs nm)] w fun e w'=>∃tb mv lv,e=.returned (.pointer (some ⟨tb,0,none⟩))/\w.heap.size<=tb/\
  Blk w' tb [mv,lv] 100/\SetIs w' w.heap.size mv lv (needsR ds nm)/\Below w.heap.size w w':=by
 obtain⟨U,HU⟩:∃U,Hid (U=allNames ds nm):=⟨_,rfl⟩;have hU:U.length<=161:=by rw[HU.out];exact allNames_len ds nm hn hW
 have hlU:∀d∈ds,∀l∈d.lits,l.name∈U:=by rw[HU.out];exact lit_in ds nm
 have hnU:nm∈U:=by rw[HU.out];simp[allNames]
 have hC0:=Blk.new w [.map none,.slice none 0 0] 100;have hS0:SetIs (w.alloc (.cells #[.map none,.slice none 0 0] 100)) w.heap.size (.map none) (.slice none 0 0) []:=⟨World.ownsRow_nil _ _ _ _,.inl ⟨rfl,rfl⟩⟩;go_enter func77,ntmps77;go_wp2_with (go_at_call 52;refine(add_any _ w.heap.size w.heap.size (.map none) (.slice none 0 0) 100 [] nm (by exact hC0) (by exact hS0) (by unfold maxLen;omega) (by simp) (by decide) (by simp)).mono ?_;rintro e w1 ⟨pp,qq,mv1,lv1,rfl,hC1,hS1,hX1⟩);have hS1:SetIs w1 w.heap.size mv1 lv1 [nm]:=hS1;have hB1:Below w.heap.size w w1:=(below_alloc w _).trans (hX1.toBelow (Nat.le_refl _));clear hC0 hS0 hX1
 go_loopw [6] (fun iv wr=>∃(i:Nat) (xs:List B8) (mv lv:Value),iv=.int .i64 i/\i<=xs.length/\(xs.Nodup/\∀x∈xs,x∈U)/\Hid (needGo ds (U.length-i) i xs=needsR ds nm)/\Blk wr w.heap.size [mv,lv] 100/\SetIs wr w.heap.size mv lv xs/\Below w.heap.size w wr) (fun iv _=>U.length-(intOf iv).toNat)
 case atStart=>refine⟨0,[nm],mv1,lv1,rfl,by simp,⟨by simp,by simpa using hnU⟩,?_,hC1,hS1,hB1⟩;show _=_;rw[HU.out];rfl
 case round=>
  clear hC1 hS1 hB1;obtain⟨i,xs,mv,lv,rfl,hi,hinv,HX,hC,hS,hB⟩:=hrel;have hxU:=sub_len hinv.1 hinv.2;by_cases hlt:i<xs.length
  ·have HG:Hid (needGo ds (U.length-(i+1)) (i+1) (needStep ds (xs.getD i []) xs)=needsR ds nm):=by show _=_;rw[<-HX.out,show U.length-i=(U.length-(i+1))+1 by omega,needGo,if_pos hlt]
   obtain⟨cur,hcur⟩:∃cur,xs.getD i []=cur:=⟨_,rfl⟩;rw[hcur]at HG;have HC:=hid hcur;clear hcur;go_wp2_with (go_at_call 35;refine(len_c _ w.heap.size w.heap.size mv lv [] 100 xs (by exact hC) (by exact hS)).mono ?_;rintro e w' ⟨rfl,rfl⟩)
   go_loopw [22] (fun kv wq=>∃(k:Nat) (mv lv:Value),k<=ds.length/\kv=.int .i64 k/\Blk wq w.heap.size [mv,lv] 100/\SetIs wq w.heap.size mv lv (needStep (ds.take k) cur xs)/\Below w.heap.size w wq) (fun kv _=>ds.length-(intOf kv).toNat)
   case atStart=>exact⟨0,mv,lv,by omega,rfl,hC,hS,hB⟩
   case round=>
    clear hC hS hB;obtain⟨k,mv,lv,hk,rfl,hC,hS,hB⟩:=hrel;by_cases hkl:k<ds.length
    ·obtain⟨g,bo,bcap,so,scap,rfl,hg,e0,e1,e2,e3,e4,e5,e6,hLb,hSp⟩:=placed_at hP k hkl;have hwf:=hW ds[k] (List.getElem_mem hkl);have hinv2:=needStep_inv U (ds.take k) cur xs (fun d hd=>hlU d (List.mem_of_mem_take hd)) hinv;have HT:=hid (needStep_snoc ds cur xs k hkl);have hnm0:ds[k].nm=bs ds[k].name:=rfl;rw[hnm0]at e0;generalize hdk:ds[k]=d at*;clear hdk hnm0;have hyU:=sub_len hinv2.1.1 hinv2.1.2;have hpl:=hinv2.2.length_le;have HAT:=hid (atW_pre hinv2.2 i hlt);obtain⟨ys,hys⟩:∃ys,needStep (ds.take k) cur xs=ys:=⟨_,rfl⟩;rw[hys]at hS HT hyU hpl HAT;clear hys;have hbw:w.heap.size<wr.heap.size:=hC.lt;have hl4:=hwf.lits;have hnl:∀l∈d.lits,l.name.length<=12:=by intro l hl;exact(hwf.words (l.name,l.ts) (by simp only[ClD.atoms,List.mem_cons,List.mem_map];exact .inr ⟨l,hl,rfl⟩)).1
     rw[<-hB.cell (p:=⟨g,k*7,none⟩) hg]at e0;rw[<-hB.cell (p:=⟨g,k*7+1,none⟩) hg]at e1;rw[<-hB.cell (p:=⟨g,k*7+2,none⟩) hg]at e2;rw[<-hB.cell (p:=⟨g,k*7+3,none⟩) hg]at e3;rw[<-hB.cell (p:=⟨g,k*7+4,none⟩) hg]at e4;rw[<-hB.cell (p:=⟨g,k*7+5,none⟩) hg]at e5;rw[<-hB.cell (p:=⟨g,k*7+6,none⟩) hg]at e6;have hbx:=Blk.new wr [Value.string (bs d.name),.int .i64 d.cn,.string (d.t 0),.string (d.t 1),.string (d.t 2),.slice bo d.lits.length bcap,.slice so d.spots.length scap] 124;obtain⟨f0,f1,f2,f3,f4,f5,f6⟩:=hbx.c7;have hbb:=bs_beq d.name cur;rw[<-HC.out,<-HAT.out]at hbb;by_cases hdn:d.name=cur
     ·have hdq:((bs d.name).toList==(atW ys i).toList)=true:=by rw[hbb,HC.out];simp[hdn]
      rw[if_pos hdn]at HT;clear hdn hbb;go_wp2_with fail
      go_quiet ((go_at_call 90;exact Calls.quiet_of_same (at_c _ w.heap.size w.heap.size mv lv [] 100 ys (by exact hC.alloc _) (by exact hS.alloc _) i (by omega))))
      go_wp2_with (go_at_call 97;refine(addBody_c _ w.heap.size base w.heap.size mv lv ys _ _ _ _ _ bo bcap d.lits (by exact(hC.alloc _).drewN _) (by exact(hS.alloc _).drewN _) (by exact(own_below hLb hB).alloc _) hl4 hnl (by omega) (by simp;omega)).mono ?_;rintro e w2 ⟨rfl,mv',lv',hC2,hS2,hX2⟩);exact⟨⟨k+1,mv',lv',hkl,by go_num,hC2,by rw[HT.out];exact hS2,(below_drewN (hB.alloc (by omega) _) _).trans (hX2.toBelow (Nat.le_refl _))⟩,by simp[intOf];omega⟩
     ·have hdq:((bs d.name).toList==(atW ys i).toList)=false:=by rw[hbb,HC.out];simp[hdn]
      rw[if_neg hdn]at HT;clear hdn hbb;go_wp2_with fail
      go_quiet ((go_at_call 90;exact Calls.quiet_of_same (at_c _ w.heap.size w.heap.size mv lv [] 100 ys (by exact hC.alloc _) (by exact hS.alloc _) i (by omega))))
      go_wp2_with fail;exact⟨⟨k+1,mv,lv,hkl,by go_num,(hC.alloc _).drewN _,by rw[HT.out];exact(hS.alloc _).drewN _,below_drewN (hB.alloc (by omega) _) _⟩,by simp[intOf];omega⟩
    ·have hke:k=ds.length:=by omega
     have HK:Hid (needStep (ds.take k) cur xs=needStep ds cur xs):=by show _=_;rw[hke,List.take_length]
     clear hke;have hinv2:=needStep_inv U ds cur xs hlU hinv;have hpl:=hinv2.2.length_le;rw[HK.out]at hS;go_wp2;exact⟨⟨i+1,needStep ds cur xs,mv,lv,by go_num,by omega,hinv2.1,HG,hC,hS,hB⟩,by simp[intOf];omega⟩
  ·have HE:Hid (needsR ds nm=xs):=by
    show _=_;rw[<-HX.out]
    cases U.length-i with
    |zero=>rfl
    |succ f=>rw[needGo,if_neg hlt]
   go_wp2_with (go_at_call 35;refine(len_c _ w.heap.size w.heap.size mv lv [] 100 xs (by exact hC) (by exact hS)).mono ?_;rintro e w' ⟨rfl,rfl⟩)
   go_ret
   rw[HE.out];exact⟨_,mv,lv,rfl,Nat.le_refl _,hC,hS,hB⟩
end
end Go.Proofs.YtpbfiffgcgnidaaGreat
