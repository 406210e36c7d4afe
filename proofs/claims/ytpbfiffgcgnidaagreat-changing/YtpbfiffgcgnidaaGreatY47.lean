import Derived.Test.YtpbfiffgcgnidaaGreatYal
import Derived.Lib.SliceRun
import Derived.Test.YtpbfiffgcgnidaaGreatY44
namespace Go.Proofs.YtpbfiffgcgnidaaGreat
set_option maxRecDepth 100000
set_option maxHeartbeats 4000000
set_option linter.unusedSimpArgs false
open Go.Proofs.Tryz
section
open Go.RowKit Go.WideMaps Go.Maps
theorem typed_blk{w:World}{b:Nat}{cs:List Value}{t e:TypeId}(h:Blk w b cs t)(hne:t≠e):Typed w (fun k=>k=b) e:=by rintro k rfl cur z hk;unfold Blk at h;rw[h]at hk;simp at hk;exact hne hk.2.1
theorem KeptIs.only{S:Nat->Prop}{w w':World}{base:Nat}{d:ClD}{cs:List Value}(h:KeptIs w base d cs)(ho:Only S w w')(ht:Typed w S 130):KeptIs w' base d cs:=by obtain⟨bv,hc,hl⟩:=h;exact⟨bv,hc,own_only hl ho (own_typed hl ht)⟩
theorem ClausesIs.only{S:Nat->Prop}{w w':World}{base:Nat}{v:Value}{ds:List ClD}(h:ClausesIs w base v ds)(ho:Only S w w')(ht:Typed w S 130)(hn:∀k,v.ownBlock=some k->¬S k):ClausesIs w' base v ds:=by obtain⟨rows,hr,hl,hi⟩:=h;exact⟨rows,own_only hr ho hn,hl,fun i d cs h1 h2=>(hi i d cs h1 h2).only ho ht⟩
end
section
attribute [local go_sem] drewN_alloc drewN_setCell
open Go.RowKit Go.WideMaps Go.Maps
theorem kept_sets(g:Nat)(vs:List Value)(o:Nat)(w:World):Kept g w (w.setCells g o vs):=by
 induction vs generalizing o w with
 |nil=>exact Kept.refl _ _
 |cons v r ih=>exact(Kept.setCell (b:=g) w (p:=⟨g,o,none⟩) rfl v).trans (ih (o+1) _)
theorem Kept.grownBy{g:Nat}{w w':World}(h:Kept g w w'):w.grownBy w' (some g):=⟨h.os,h.tape,h.output,h.size,fun k hk hn=>h.block k hk (fun e=>hn (by rw[e]))⟩
theorem blk_sets(g:Nat)(vs:List Value)(o:Nat)(w:World)(cs:List Value)(t:TypeId)(h:Blk w g cs t):∃cs',Blk (w.setCells g o vs) g cs' t/\cs'.length=cs.length/\∀k,k<=o->cs'.take k=cs.take k:=by
 induction vs generalizing o w cs with
 |nil=>exact⟨cs,h,rfl,fun _ _=>rfl⟩
 |cons v r ih=>obtain⟨cs',h1,h2,h3⟩:=ih (o+1) _ _ (h.setCell o v);refine⟨cs',h1,by rw[h2,List.length_set],?_⟩;intro k hk;rw[h3 k (by omega),List.take_set_of_le (by omega)]
theorem own_cut{w:World}{base:Nat}{e:TypeId}{size g n cap:Nat}{xs:List Value}(h:w.ownsRow base e size (.slice (some ⟨g,0,none⟩) n cap) n xs)(m:Nat)(hm:m<=n)(vs:List Value):
 (w.setCells g (m*size) vs).ownsRow base e size (.slice (some ⟨g,0,none⟩) m cap) m (xs.take (m*size)):=by
 rcases h.2 with⟨h1,_⟩|⟨g',cap',cur,hv,hg,hh,hc,hl,hs,hx⟩
 ·simp at h1
 ·simp only[Value.slice.injEq,Option.some.injEq,Addr.mk.injEq,true_and,and_true]at hv;obtain⟨rfl,rfl⟩:=hv;have hB:Blk w g cur.toList e:=by unfold Blk;simpa using hh
  obtain⟨cs',k1,k2,k3⟩:=blk_sets g vs (m*size) w cur.toList e hB;have hms:m*size<=n*size:=Nat.mul_le_mul_right _ hm;refine⟨?_,.inr ⟨g,cap,cs'.toArray,rfl,hg,k1,by omega,hl,?_,?_⟩⟩
  ·rw[List.length_take,h.1];omega
  ·simp[k2,hs]
  ·simp only[];rw[k3 _ (Nat.le_refl _),<-hx,List.take_take,Nat.min_eq_left hms]
theorem len6(r:List Value)(h:r.length=6):∃a0 a1 a2 a3 a4 a5,r=[a0,a1,a2,a3,a4,a5]:=by
 match r,h with
 |[a0,a1,a2,a3,a4,a5],_=>exact⟨a0,a1,a2,a3,a4,a5,rfl⟩
theorem flat_set6(R:List (List Value))(h6:∀r∈R,r.length=6)(i:Nat)(hi:i<R.length)(x0 x1 x2 x3 x4 x5:Value):
 ((((((R.flatten.set (i*6) x0).set (i*6+1) x1).set (i*6+2) x2).set (i*6+3) x3).set (i*6+4) x4).set (i*6+5) x5)=(R.set i [x0,x1,x2,x3,x4,x5]).flatten:=by
 induction R generalizing i with
 |nil=>simp at hi
 |cons r R ih=>
  obtain⟨a0,a1,a2,a3,a4,a5,rfl⟩:=len6 r (h6 r (by simp))
  cases i with
  |zero=>simp
  |succ i=>have h:=ih (fun r hr=>h6 r (by simp[hr])) i (by simpa using hi);rw[show(i+1)*6=i*6+6 by omega,List.set_cons_succ,List.flatten_cons,List.flatten_cons,<-h];rfl
theorem own_put{w:World}{base:Nat}{e:TypeId}{g n cap:Nat}{R:List (List Value)}(h:w.ownsRow base e 6 (.slice (some ⟨g,0,none⟩) n cap) n R.flatten)(h6:∀r∈R,r.length=6)(hn:R.length=n)(i:Nat)(hi:i<n)(x0 x1 x2 x3 x4 x5:Value):
 ((((((w.setCell ⟨g,i*6,none⟩ x0).setCell ⟨g,i*6+1,none⟩ x1).setCell ⟨g,i*6+2,none⟩ x2).setCell ⟨g,i*6+3,none⟩ x3).setCell ⟨g,i*6+4,none⟩ x4).setCell ⟨g,i*6+5,none⟩ x5).ownsRow base e 6 (.slice (some ⟨g,0,none⟩) n cap) n (R.set i [x0,x1,x2,x3,x4,x5]).flatten:=by
 rcases h.2 with⟨h1,_⟩|⟨g',cap',cur,hv,hg,hh,hc,hl,hs,hx⟩
 ·simp at h1
 ·simp only[Value.slice.injEq,Option.some.injEq,Addr.mk.injEq,true_and,and_true]at hv;obtain⟨rfl,rfl⟩:=hv;have hB:Blk w g cur.toList e:=by unfold Blk;simpa using hh
  have hB6:=(((((hB.setCell (i*6) x0).setCell (i*6+1) x1).setCell (i*6+2) x2).setCell (i*6+3) x3).setCell (i*6+4) x4).setCell (i*6+5) x5;rw[<-flat_set6 R h6 i (by omega)];refine⟨by simp only[List.length_set];exact h.1,.inr ⟨g,cap,_,rfl,hg,hB6,hc,hl,by simp[hs],?_⟩⟩;simp only[List.take_set];rw[hx]
theorem zero_one(z:Array Value)(m:Nat)(h:∀v∈z.toList,v.oneCell'=true)(hz:0<z.size):∀v∈(Builtin.zeroCells z m).toList,v.oneCell'=true:=by intro v hv;simp only[Builtin.zeroCells,Array.toList_map,List.mem_map]at hv;obtain⟨i,_,rfl⟩:=hv;have hlt:i%z.size<z.size:=Nat.mod_lt _ hz;rw[getElem!_pos z _ hlt];exact h _ (by simp)
def zv(m:Nat):List Value:=(Builtin.zeroCells (Value.agg #[.string ⟨#[]⟩,.int .i64 0,.string ⟨#[]⟩,.string ⟨#[]⟩,.string ⟨#[]⟩,.slice none 0 0]).cells m).toList
theorem clear_many(w:World)(ty:TypeId)(g o m c:Nat)(cs:List Value)(t:TypeId)(h:Blk w g cs t)(hm:0<m)(ho:o+m*6<=cs.length):
 (Builtin.clear_ #[49] ty #[.slice (some ⟨g,o,none⟩) m c]).run prog w=.ok (.tuple #[]) (w.setCells g o (zv m)):=by
 have hlen:(zv m).length=m*6:=by unfold zv;rw[Array.length_toList,size_zeroCells];rfl
 have hst:=run_storeCells_cells (P:=prog) g o (zv m) 0 w
  (by intro j hj;rw[hlen]at hj;rw[h.cell];simp;omega)
  (by intro j hj;exact h.frozen _)
  (zero_one _ m (by intro v hv;simp[Value.cells]at hv;rcases hv with rfl|rfl|rfl|rfl|rfl|rfl<;>rfl) (by decide))
 simp only[Nat.add_zero]at hst;obtain⟨k,rfl⟩:∃k,m=k+1:=⟨m-1,by omega⟩;unfold zv at hst⊢;simp[Builtin.clear_,run_underlying underlying49,hst]
theorem flat_take(R:List (List Value))(h6:∀r∈R,r.length=6)(i:Nat)(hi:i<=R.length):R.flatten.take (i*6)=(R.take i).flatten:=by
 induction R generalizing i with
 |nil=>simp
 |cons r R ih=>
  cases i with
  |zero=>simp
  |succ i=>have hr:=h6 r (by simp);have h:=ih (fun r hr=>h6 r (by simp[hr])) i (by simpa using hi);rw[List.flatten_cons,List.take_succ_cons,List.flatten_cons,<-h,List.take_append,List.take_of_length_le (by omega),hr];congr 2;omega
def stay(an:B8)(ats:List B8)(ps:List (ClD×List Value)):List (ClD×List Value):=ps.filter fun p=> !matchB an ats p.1
theorem stay_fst(an:B8)(ats:List B8)(ds:List ClD)(rows:List (List Value))(h:rows.length=ds.length):(stay an ats (ds.zip rows)).map Prod.fst=ds.filter fun d=> !matchB an ats d:=by
 induction ds generalizing rows with
 |nil=>simp[stay]
 |cons d ds ih=>
  cases rows with
  |nil=>simp at h
  |cons r rows=>
   have h':=ih rows (by simpa using h);unfold stay at h'⊢;rw[List.zip_cons_cons,List.filter_cons,List.filter_cons];cases hm:matchB an ats d
   ·simp[h']
   ·simp[h']
theorem stay_step(an:B8)(ats:List B8)(ds:List ClD)(rows:List (List Value))(h:rows.length=ds.length)(j:Nat)(hj:j<ds.length):stay an ats ((ds.zip rows).take (j+1))=stay an ats ((ds.zip rows).take j)++(if matchB an ats ds[j]=true then [] else [(ds[j],rows[j])]):=by
 have hz:j<(ds.zip rows).length:=by simp;omega
 unfold stay;rw[List.take_succ_eq_append_getElem hz,List.filter_append,List.getElem_zip];congr 1;cases hm:matchB an ats ds[j]<;>simp[hm]
theorem idx_at(an:B8)(ats:List B8)(ds:List ClD)(rows:List (List Value))(h:rows.length=ds.length)(hx:0<=idx an ats ds):∃i,i<ds.length/\idx an ats ds=(i:Nat)/\(stay an ats ((ds.zip rows).take (i+1))).map Prod.snd=rows.take i:=by
 have key:∀(k:Nat),k<=ds.length->idxGo an ats k (ds.drop k)=idx an ats ds->(stay an ats ((ds.zip rows).take k)).map Prod.snd=rows.take k->∃i,i<ds.length/\idx an ats ds=(i:Nat)/\(stay an ats ((ds.zip rows).take (i+1))).map Prod.snd=rows.take i:=by
  intro k
  induction hd:ds.length-k generalizing k with
  |zero=>intro hk h1 _;rw[List.drop_eq_nil_of_le (by omega)]at h1;rw[<-h1]at hx;simp[idxGo]at hx
  |succ n ih=>
   intro hk h1 h2;have hlt:k<ds.length:=by omega
   rw[idxGo_drop an ats ds k hlt]at h1;by_cases hm:matchB an ats ds[k]=true
   ·rw[if_pos hm]at h1;exact⟨k,hlt,h1.symm,by rw[stay_step an ats ds rows h k hlt,if_pos hm,List.append_nil,h2]⟩
   ·rw[if_neg hm]at h1;refine ih (k+1) (by omega) (by omega) h1 ?_;rw[stay_step an ats ds rows h k hlt,if_neg hm,List.map_append,h2,List.take_succ_eq_append_getElem (by omega)];rfl
 exact key 0 (by omega) rfl (by simp[stay])
theorem delete_c(w:World)(base:Nat)(g cap:Nat)(ds:List ClD)(hP:ClausesIs w base (.slice (some ⟨g,0,none⟩) ds.length cap) ds)(hW:∀d∈ds,d.WF)(hn:ds.length<=40)(B:Nat)(an:B8)(ats:List B8)(hA:Blk w B (atomCells an ats) 54)(hx:0<=idx an ats ds):
 Calls prog 27 #[.slice (some ⟨g,0,none⟩) ds.length cap,.func (.func 40) #[] #[.pointer (some ⟨B,0,none⟩)]] w fun e w'=>∃m:Nat,e=.returned (.slice (some ⟨g,0,none⟩) m cap)/\ClausesIs w' base (.slice (some ⟨g,0,none⟩) m cap) (ds.filter fun d=> !matchB an ats d)/\Only (fun k=>k=g) w w':=by
 have hX:=indexCl_c w base (some ⟨g,0,none⟩) cap ds hP hW hn B an ats hA;obtain⟨rows,ho,hl,hr⟩:=hP;have hall:∀r∈rows,r.length=6:=by intro r hr';obtain⟨j,hj,rfl⟩:=List.getElem_of_mem hr';obtain⟨bv,hc,_⟩:=hr j ds[j] rows[j] (by simp) (by simp);rw[hc];rfl
 obtain⟨i0,hi0,hix,hst0⟩:=idx_at an ats ds rows hl hx;rw[hix]at hX;have HX:=hid hX;have HST0:=hid hst0
 have hrow:∃cs,Blk w g cs 60/\cs.length=cap*6/\ds.length<=cap/\cap<=maxLen:=by
  rcases ho.2 with⟨h1,_⟩|⟨g',cap',cur,hv,hg,hh,hc,hl,hs,hx⟩
  ·simp at h1
  ·simp only[Value.slice.injEq,Option.some.injEq,Addr.mk.injEq,true_and,and_true]at hv;obtain⟨rfl,rfl⟩:=hv;exact⟨cur.toList,by unfold Blk;simpa using hh,by simpa using hs,by simpa using hc,hl⟩
 obtain⟨cs0,hcs0,_,hcap,hcm⟩:=hrow;have hgB:B≠g:=by rintro rfl;unfold Blk at hA hcs0;rw[hA]at hcs0;simp at hcs0
 have htl:Typed w (fun k=>k=g) 130:=typed_blk hcs0 (by decide);have hglt:=hcs0.lt;unfold maxLen at hcm;have hi0i:¬((i0:Nat):Int)= -1:=by omega
 have hi0b:(((i0:Nat):Int)== -1)=false:=by rw[beq_eq_false_iff_ne];exact hi0i
 clear hX hx hix hst0;go_enter func27,ntmps27;go_wp2_with fail;refine(HX.out).mono ?_;rintro e w1 ⟨rfl,hB1⟩;go_wp2_with fail
 go_loopw [5,6] (fun iv jv wr=>∃(i j:Nat) (R:List (List Value)),iv=.int .i64 i/\jv=.int .i64 j/\i<j/\j<=ds.length/\R.length=ds.length/\(∀r∈R,r.length=6)/\Hid (R.drop j=rows.drop j)/\Hid (R.take i=(stay an ats ((ds.zip rows).take j)).map Prod.snd)/\wr.ownsRow base 60 6 (.slice (some ⟨g,0,none⟩) ds.length cap) ds.length R.flatten/\Only (fun k=>k=g) w wr) (fun _ jv _=>ds.length-(intOf jv).toNat)
 case atStart=>exact⟨i0,i0+1,rows,rfl,by go_num,by omega,by omega,hl,hall,rfl,HST0.out.symm,own_below ho hB1,Only.of_below hB1⟩
 case round=>
  obtain⟨i,j,R,rfl,rfl,hij,hj,hRl,hR6,HRD,HRT,hor,hO⟩:=hrel
  have hrow:∃cs,Blk wr g cs 60/\cs.length=cap*6:=by
   rcases hor.2 with⟨h1,_⟩|⟨g',cap',cur,hv,hg,hh,hc,hl,hs,hx⟩
   ·simp at h1
   ·simp only[Value.slice.injEq,Option.some.injEq,Addr.mk.injEq,true_and,and_true]at hv;obtain⟨rfl,rfl⟩:=hv;exact⟨cur.toList,by unfold Blk;simpa using hh,by simpa using hs⟩
  obtain⟨cs,hcs,hcl⟩:=hrow;have hgr:=hcs.lt;by_cases hlt:j<ds.length
  ·obtain⟨g',hgg,-,hcj⟩:=own_at hor hR6 hRl j hlt;simp only[Option.some.injEq,Addr.mk.injEq,and_true]at hgg;subst hgg;obtain⟨g',hgg,-,hci⟩:=own_at hor hR6 hRl i (by omega);simp only[Option.some.injEq,Addr.mk.injEq,and_true]at hgg;subst hgg;have hRj:R.getD j []=rows[j]:=by have h1:=congrArg (fun l=>l[0]?) HRD.out;simp only[List.getElem?_drop,Nat.add_zero]at h1;rw[List.getD_eq_getElem?_getD,h1,List.getElem?_eq_getElem (by omega)];rfl
   obtain⟨b0,b1,b2,b3,b4,b5,hRi⟩:=len6 (R.getD i []) (hR6 _ (by rw[List.getD_eq_getElem?_getD,List.getElem?_eq_getElem (by omega)];simp));obtain⟨bv,hrj,hlb⟩:=hr j ds[j] rows[j] (by simp) (by simp);obtain⟨bo,bcap,rfl⟩:=own_form hlb;have hwf:=hW ds[j] (List.getElem_mem hlt);have HSS:=hid (stay_step an ats ds rows hl j hlt);rw[hRj,hrj]at hcj;rw[hRi]at hci;have HRJ:=hid hrj;generalize ds[j]=d at*;have h3:=(hwf.words (d.name,d.ts) (by simp[ClD.atoms])).2.1;have e0:wr.cell? ⟨g,j*6,none⟩=some (.string (bs d.name)):=hcj 0 (by decide);have e1:wr.cell? ⟨g,j*6+1,none⟩=some (.int .i64 (d.ts.length:Nat)):=hcj 1 (by decide);have e2:wr.cell? ⟨g,j*6+2,none⟩=some (.string (bs (d.ts.getD 0 []))):=hcj 2 (by decide);have e3:wr.cell? ⟨g,j*6+3,none⟩=some (.string (bs (d.ts.getD 1 []))):=hcj 3 (by decide);have e4:wr.cell? ⟨g,j*6+4,none⟩=some (.string (bs (d.ts.getD 2 []))):=hcj 4 (by decide);have e5:wr.cell? ⟨g,j*6+5,none⟩=some (.slice bo d.lits.length bcap):=hcj 5 (by decide);have f0:wr.cell? ⟨g,i*6,none⟩=some b0:=hci 0 (by decide);have f1:wr.cell? ⟨g,i*6+1,none⟩=some b1:=hci 1 (by decide);have f2:wr.cell? ⟨g,i*6+2,none⟩=some b2:=hci 2 (by decide);have f3:wr.cell? ⟨g,i*6+3,none⟩=some b3:=hci 3 (by decide);have f4:wr.cell? ⟨g,i*6+4,none⟩=some b4:=hci 4 (by decide);have f5:wr.cell? ⟨g,i*6+5,none⟩=some b5:=hci 5 (by decide);have HC:=hid (fun(W:World) (hb:Blk W B (atomCells an ats) 54)=>isFactOf1_c W d.name d.ts bo d.lits.length bcap h3 hwf.lits B an ats hb);have HA:=hid (hA.only hO hgB);have hgA:g<(wr.alloc (.cells #[.string (bs d.name),.int .i64 (d.ts.length:Nat),.string (bs (d.ts.getD 0 [])),.string (bs (d.ts.getD 1 [])),.string (bs (d.ts.getD 2 [])),.slice bo d.lits.length bcap] 60)).heap.size:=by simp;omega
   clear hcj hci;cases hm:matchB an ats d
   ·have HSN:=hid (show stay an ats ((ds.zip rows).take (j+1))=stay an ats ((ds.zip rows).take j)++[(d,rows[j])] by rw[HSS.out,hm];rfl);go_wp2_with (go_at_call 40;refine(HC.out _ (by exact(HA.out).alloc _)).mono ?_;rintro e w2 ⟨he,hB2⟩;rw[show(isFactB d.lits.length d.ts&&sameB d.name an d.ts ats)=false from hm]at he;subst he;obtain⟨q0,q1,q2,q3,q4,q5⟩:=((Blk.new wr [.string (bs d.name),.int .i64 (d.ts.length:Nat),.string (bs (d.ts.getD 0 [])),.string (bs (d.ts.getD 1 [])),.string (bs (d.ts.getD 2 [])),.slice bo d.lits.length bcap] 60).below hB2).c6;have fg:=((hcs.alloc (.cells #[.string (bs d.name),.int .i64 (d.ts.length:Nat),.string (bs (d.ts.getD 0 [])),.string (bs (d.ts.getD 1 [])),.string (bs (d.ts.getD 2 [])),.slice bo d.lits.length bcap] 60)).below hB2).frozen;have hqw:=((Blk.new wr [.string (bs d.name),.int .i64 (d.ts.length:Nat),.string (bs (d.ts.getD 0 [])),.string (bs (d.ts.getD 1 [])),.string (bs (d.ts.getD 2 [])),.slice bo d.lits.length bcap] 60).below hB2).lt;have g0:=(hB2.cell (p:=⟨g,i*6,none⟩) hgA).trans (((below_alloc wr (.cells #[.string (bs d.name),.int .i64 (d.ts.length:Nat),.string (bs (d.ts.getD 0 [])),.string (bs (d.ts.getD 1 [])),.string (bs (d.ts.getD 2 [])),.slice bo d.lits.length bcap] 60)).cell (p:=⟨g,i*6,none⟩) hgr).trans f0);have g1:=(hB2.cell (p:=⟨g,i*6+1,none⟩) hgA).trans (((below_alloc wr (.cells #[.string (bs d.name),.int .i64 (d.ts.length:Nat),.string (bs (d.ts.getD 0 [])),.string (bs (d.ts.getD 1 [])),.string (bs (d.ts.getD 2 [])),.slice bo d.lits.length bcap] 60)).cell (p:=⟨g,i*6+1,none⟩) hgr).trans f1);have g2:=(hB2.cell (p:=⟨g,i*6+2,none⟩) hgA).trans (((below_alloc wr (.cells #[.string (bs d.name),.int .i64 (d.ts.length:Nat),.string (bs (d.ts.getD 0 [])),.string (bs (d.ts.getD 1 [])),.string (bs (d.ts.getD 2 [])),.slice bo d.lits.length bcap] 60)).cell (p:=⟨g,i*6+2,none⟩) hgr).trans f2);have g3:=(hB2.cell (p:=⟨g,i*6+3,none⟩) hgA).trans (((below_alloc wr (.cells #[.string (bs d.name),.int .i64 (d.ts.length:Nat),.string (bs (d.ts.getD 0 [])),.string (bs (d.ts.getD 1 [])),.string (bs (d.ts.getD 2 [])),.slice bo d.lits.length bcap] 60)).cell (p:=⟨g,i*6+3,none⟩) hgr).trans f3);have g4:=(hB2.cell (p:=⟨g,i*6+4,none⟩) hgA).trans (((below_alloc wr (.cells #[.string (bs d.name),.int .i64 (d.ts.length:Nat),.string (bs (d.ts.getD 0 [])),.string (bs (d.ts.getD 1 [])),.string (bs (d.ts.getD 2 [])),.slice bo d.lits.length bcap] 60)).cell (p:=⟨g,i*6+4,none⟩) hgr).trans f4);have g5:=(hB2.cell (p:=⟨g,i*6+5,none⟩) hgA).trans (((below_alloc wr (.cells #[.string (bs d.name),.int .i64 (d.ts.length:Nat),.string (bs (d.ts.getD 0 [])),.string (bs (d.ts.getD 1 [])),.string (bs (d.ts.getD 2 [])),.slice bo d.lits.length bcap] 60)).cell (p:=⟨g,i*6+5,none⟩) hgr).trans f5));have hor2:=own_below (hor.alloc (.cells #[.string (bs d.name),.int .i64 (d.ts.length:Nat),.string (bs (d.ts.getD 0 [])),.string (bs (d.ts.getD 1 [])),.string (bs (d.ts.getD 2 [])),.slice bo d.lits.length bcap] 60)) hB2;have hO2:Only (fun k=>k=g) w w2:=(hO.alloc (.cells #[.string (bs d.name),.int .i64 (d.ts.length:Nat),.string (bs (d.ts.getD 0 [])),.string (bs (d.ts.getD 1 [])),.string (bs (d.ts.getD 2 [])),.slice bo d.lits.length bcap] 60)).trans (Only.of_below (S:=fun k=>k=g) hB2) (fun k _ h=>h);have hput:=own_put hor2 hR6 hRl i (by omega) (.string (bs d.name)) (.int .i64 (d.ts.length:Nat)) (.string (bs (d.ts.getD 0 []))) (.string (bs (d.ts.getD 1 []))) (.string (bs (d.ts.getD 2 []))) (.slice bo d.lits.length bcap);have hrow6:rows[j]=[.string (bs d.name),.int .i64 (d.ts.length:Nat),.string (bs (d.ts.getD 0 [])),.string (bs (d.ts.getD 1 [])),.string (bs (d.ts.getD 2 [])),.slice bo d.lits.length bcap]:=HRJ.out;refine⟨⟨i+1,j+1,R.set i [.string (bs d.name),.int .i64 (d.ts.length:Nat),.string (bs (d.ts.getD 0 [])),.string (bs (d.ts.getD 1 [])),.string (bs (d.ts.getD 2 [])),.slice bo d.lits.length bcap],by go_num,by go_num,by omega,hlt,by simp[hRl],?_,?_,?_,hput,?_⟩,by simp[intOf];omega⟩
    ·intro r hr';rcases List.mem_or_eq_of_mem_set hr' with h|rfl
     ·exact hR6 r h
     ·rfl
    ·show _=_;rw[List.drop_set_of_lt (by omega)];have h1:=congrArg (List.drop 1) HRD.out;simpa[List.drop_drop]using h1
    ·show _=_;rw[HSN.out,List.map_append,<-HRT.out,<-List.take_set_of_le (l:=R) (a:=[.string (bs d.name),.int .i64 (d.ts.length:Nat),.string (bs (d.ts.getD 0 [])),.string (bs (d.ts.getD 1 [])),.string (bs (d.ts.getD 2 [])),.slice bo d.lits.length bcap]) (Nat.le_refl i),List.take_succ_eq_append_getElem (by simp;omega)];simp[hrow6]
    ·exact(((((hO2.setCell (p:=⟨g,i*6,none⟩) (.inl rfl) _).setCell (p:=⟨g,i*6+1,none⟩) (.inl rfl) _).setCell (p:=⟨g,i*6+2,none⟩) (.inl rfl) _).setCell (p:=⟨g,i*6+3,none⟩) (.inl rfl) _).setCell (p:=⟨g,i*6+4,none⟩) (.inl rfl) _).setCell (p:=⟨g,i*6+5,none⟩) (.inl rfl) _
   ·have HSN:=hid (show stay an ats ((ds.zip rows).take (j+1))=stay an ats ((ds.zip rows).take j) by rw[HSS.out,hm];simp);go_wp2_with (go_at_call 40;refine(HC.out _ (by exact(HA.out).alloc _)).mono ?_;rintro e w2 ⟨he,hB2⟩;rw[show(isFactB d.lits.length d.ts&&sameB d.name an d.ts ats)=true from hm]at he;subst he);have hor2:=own_below (hor.alloc (.cells #[.string (bs d.name),.int .i64 (d.ts.length:Nat),.string (bs (d.ts.getD 0 [])),.string (bs (d.ts.getD 1 [])),.string (bs (d.ts.getD 2 [])),.slice bo d.lits.length bcap] 60)) hB2;have hO2:Only (fun k=>k=g) w w2:=(hO.alloc (.cells #[.string (bs d.name),.int .i64 (d.ts.length:Nat),.string (bs (d.ts.getD 0 [])),.string (bs (d.ts.getD 1 [])),.string (bs (d.ts.getD 2 [])),.slice bo d.lits.length bcap] 60)).trans (Only.of_below (S:=fun k=>k=g) hB2) (fun k _ h=>h);refine⟨⟨i,j+1,R,rfl,by go_num,by omega,hlt,hRl,hR6,?_,?_,hor2,hO2⟩,by simp[intOf];omega⟩
    ·show _=_;have h1:=congrArg (List.drop 1) HRD.out;simpa[List.drop_drop]using h1
    ·show _=_;rw[HSN.out,HRT.out]
  ·have hje:j=ds.length:=by omega
   have hin:i<ds.length:=by omega
   have hclr:=fun ty=>clear_many wr ty g (i*6) (ds.length-i) (cap-i) cs 60 hcs (by omega) (by omega);have hcut:=own_cut hor i (by omega) (zv (ds.length-i));rw[flat_take R hR6 i (by omega),HRT.out,hje,List.take_of_length_le (by simp;omega)]at hcut;have hKl:((stay an ats (ds.zip rows)).map Prod.snd).length=i:=by have h1:=congrArg List.length HRT.out;rw[hje,List.take_of_length_le (l:=ds.zip rows) (by simp;omega),List.length_take]at h1;omega
   have hOz:Only (fun k=>k=g) w (wr.setCells g (i*6) (zv (ds.length-i))):=hO.trans (Only.of_grown (S:=fun k=>k=g) (kept_sets g (zv (ds.length-i)) (i*6) wr).grownBy (fun k hk=>by simpa using hk.symm)) (fun k _ h=>h)
   have hfin:ClausesIs (wr.setCells g (i*6) (zv (ds.length-i))) base (.slice (some ⟨g,0,none⟩) i cap) (ds.filter fun d=> !matchB an ats d):=by
    have hfl:(ds.filter fun d=> !matchB an ats d).length=i:=by rw[<-stay_fst an ats ds rows hl,List.length_map,<-hKl,List.length_map]
    refine⟨(stay an ats (ds.zip rows)).map Prod.snd,by rw[hfl];exact hcut,by rw[hfl,hKl],?_⟩;intro t d cs' h1 h2;rw[<-stay_fst an ats ds rows hl,List.getElem?_map]at h1;rw[List.getElem?_map]at h2
    cases hK:(stay an ats (ds.zip rows))[t]? with
    |none=>rw[hK]at h1;simp at h1
    |some p=>
     rw[hK]at h1 h2;simp only[Option.map_some,Option.some.injEq]at h1 h2;have hmem:p∈ds.zip rows:=(List.mem_filter.1 (List.mem_of_getElem? hK)).1;obtain⟨k,hk,hpk⟩:=List.getElem_of_mem hmem;rw[List.getElem_zip]at hpk;have hk1:k<ds.length:=by simp at hk;omega
     have:=hr k ds[k] rows[k] (by simp) (by simp);rw[<-h1,<-h2,<-hpk];exact this.only hOz htl
   have hi1:(i:Int)<=(ds.length:Int):=by omega
   have hi2:(ds.length:Int)<=(cap:Int):=by omega
   clear hje HRD HRT hcut hKl hor;generalize wr.setCells g (i*6) (zv (ds.length-i))=wz at*;go_wp2_with (simp only[hclr])
   go_ret
   exact⟨i,rfl,hfin,hOz⟩
theorem retract_some2(w:World)(base bb:Nat)(v:Value)(D ds:List ClD)(hV:Blk w bb [v] 51)(hL:ClausesIs w base v D)(_:base<=w.heap.size)(s:ByteArray)(x y0 y1 y2:ByteArray)(n:Int)(hA:Asked base bb D s true x y0 y1 y2 n)
 (hD:∀(W:World) (ao:Option Addr) (cap B:Nat),ClausesIs W base (.slice ao D.length cap) D->Blk W B [.string x,.int .i64 n,.string y0,.string y1,.string y2] 54->Calls prog 27 #[.slice ao D.length cap,.func (.func 40) #[] #[.pointer (some ⟨B,0,none⟩)]] W fun e w'=>∃m:Nat,e=.returned (.slice ao m cap)/\ClausesIs w' base (.slice ao m cap) ds/\Only (fun k=>(Value.slice ao D.length cap).ownBlock=some k) W w'):
 Calls prog 18 #[.pointer (some ⟨bb,0,none⟩),.string s] w fun e w'=>e=.returned (.tuple #[.int .i64 0,.int .i64 0])/\(∃v',Blk w' bb [v'] 51/\ClausesIs w' base v' ds/\(v'.ownBlock=v.ownBlock\/∀k,v'.ownBlock=some k->w.heap.size<=k))/\Only (fun k=>k=bb\/v.ownBlock=some k) w w':=by
 have hw0:bb<w.heap.size:=hV.lt;obtain⟨ao,cap,rfl⟩:=hL.form;have hI:BaseIs w base bb D:=⟨_,hV,hL⟩;have HR:=hid (hA.reads w hI);have HF:=hid hA.factOf;have HD:=hid hD;clear hD;have HH:=hid hA.has;have HI:=hid hI;clear hA hI;go_enter func18,ntmps18;go_wp2_with fail;refine(HR.out).mono ?_;rintro e w1 ⟨rfl,hB1⟩;have HIx:=hid ((HI.out.below hB1).below (below_alloc w1 (.cells #[.string x,.int .i64 n,.string y0,.string y1,.string y2] 54)));have HBx:=hid (hB1.trans ((below_alloc w1 (.cells #[.string x,.int .i64 n,.string y0,.string y1,.string y2] 54)).mono hB1.size));have hzz:=HBx.out.size;have h1:=(hV.below hB1).below (below_alloc w1 (.cells #[.string x,.int .i64 n,.string y0,.string y1,.string y2] 54));have h2:=(hL.below hB1).below (below_alloc w1 (.cells #[.string x,.int .i64 n,.string y0,.string y1,.string y2] 54));have hlt:=(HI.out.below hB1);obtain⟨v',k1,k2⟩:=hlt;have hlt:=k1.lt;have hne:bb≠w1.heap.size:=by omega
 have c0:=h1.cell 0;have H1:=hid h1;have H2:=hid (h2.below (Below.refl _ _).drew);clear h1 h2 HI HR HIx k1 k2;have hsize:(w1.alloc (.cells #[.string x,.int .i64 n,.string y0,.string y1,.string y2] 54)).heap.size=w1.heap.size+1:=by simp
 obtain⟨q0,q1,q2,q3,q4⟩:=(Blk.new w1 [.string x,.int .i64 n,.string y0,.string y1,.string y2] 54).c5;have HQ:=hid (Blk.new w1 [.string x,.int .i64 n,.string y0,.string y1,.string y2] 54);go_wp2_with fail;generalize hw:(w1.alloc (.cells #[.string x,.int .i64 n,.string y0,.string y1,.string y2] 54))=u at*;generalize w1.heap.size=B1 at*;clear hw hB1
 go_region_with (first|(go_at_call 26;refine(HF.out _).mono ?_;rintro e w2 ⟨rfl,hA2,hB2⟩;have c02:=(H1.out.drew.below hB2).cell 0)|(go_at_call 25;refine(HH.out w2 ao cap (B1+1) (H2.out.below hB2) (by rw[<-hsize];exact hA2)).mono ?_;rintro e w3 ⟨rfl,hB3⟩))
 all_goals
  have hB23:=hB2.trans (hB3.mono hB2.size);have hB:=HBx.out.drew.trans (hB23.mono (by simp;omega));have hC:=H1.out.drew.below hB23;have c03:=hC.cell 0;have fC:=hC.frozen;have HP:=hid ((H2.out.below hB23).below (Below.refl _ _).drew);have hnb:(Value.slice ao D.length cap).ownBlock≠some bb/\∀k,(Value.slice ao D.length cap).ownBlock=some k->base<=k:=by obtain⟨rows,ho,_,_⟩:=H2.out.below hB23;exact⟨own_ne ho hC (by decide),own_base ho⟩
  have HN:=hid hnb;have hq:=(HQ.out.drew.below hB23);obtain⟨p0,p1,p2,p3,p4⟩:=hq.c5;have hbw:bb<w3.heap.size:=hC.lt;have hbq:B1<w3.heap.size:=hq.lt;have HC:=hid hC;clear H1 H2 HQ HH HBx q0 q1 q2 q3 q4 c0 c02 hA2 hB2 hB3 hB23 hq hC hnb;go_wp2_with fail
  go_region_with (first|(go_at_call 26;refine(HF.out _).mono ?_;rintro e w4 ⟨rfl,hA4,hB4⟩;have c04:=(HC.out.drew.below hB4).cell 0)|(go_at_call 27;refine(HD.out w4 ao cap w3.heap.size (HP.out.below hB4) (by exact hA4)).mono ?_;rintro e w5 ⟨m5,rfl,hP5,hO5⟩;have hC5:=(HC.out.drew.below hB4).only hO5 HN.out.1;have c05:=hC5.cell 0;have fC5:=hC5.frozen))
  all_goals
   have hB4b:Below w.heap.size w w4:=hB.drew.trans (hB4.mono (by have:=hB.size;simpa using this));go_wp2_with fail;go_ret2;refine⟨rfl,⟨_,hC5.setCell 0 _,hP5.set hC5 (by decide) (by decide) 0 _,.inl (by cases ao<;>rfl)⟩,?_⟩;refine Only.setCell ?_ (.inl (.inl rfl)) _;exact(Only.of_below (S:=fun k=>k=bb\/(Value.slice ao D.length cap).ownBlock=some k) hB4b).trans hO5 (fun k _ h=>.inr h)
end
end Go.Proofs.YtpbfiffgcgnidaaGreat
