import Derived.Test.YtpbfiffgcgnidaaGreatYal
import Derived.Test.YtpbfiffgcgnidaaGreatY42
import Derived.Test.YtpbfiffgcgnidaaGreatY45
namespace Go.Proofs.YtpbfiffgcgnidaaGreat
set_option maxRecDepth 100000
set_option maxHeartbeats 4000000
set_option linter.unusedSectionVars false
set_option linter.unusedSimpArgs false
open Go.Proofs.Tryz
section
open Go.RowKit
variable [DecidableEq R3] [DecidableEq A4]
theorem mul3_le{N n A a:Nat}(h1:N<=n)(h2:A<=a):N*A*A*A<=n*a*a*a:=Nat.mul_le_mul (Nat.mul_le_mul (Nat.mul_le_mul h1 h2) h2) h2
theorem lim_of{N C:Nat}(hN:N<=210)(hC:C<=620):Lim N C:=by
 refine⟨?_,?_,?_,by omega,by omega⟩
 ·exact Nat.le_trans (mul3_le hN (show C+3<=623 by omega)) (by decide)
 ·exact Nat.le_trans (mul3_le (Nat.le_refl 1) hC) (by decide)
 ·exact Nat.le_trans (mul3_le hN (show 4*C<=2480 by omega)) (by decide)
theorem sctx_of{ds:List ClD}{nm cl:List B8}{ar:B8->Nat}{M:BA->Prop}{lay:B8->Nat}(hS:StableD ds M)(hC:CodeOk ds nm cl ar)(hl:LayD lay ds)(h3:∀d∈ds,d.ts.length<=3/\∀l∈d.lits,l.ts.length<=3)(hn:(allW [] [] ds).1<+:nm)(hc:(allW [] [] ds).2<+:cl)(hnl:nm.length<=210)(hcl:cl.length<=610)(hd:ds.length<=40)(m0 m1 ru:Value):
 SCtx (CodM nm cl M) (layN lay nm) nm.length (cl.length+1) ⟨m0,m1,ru,nm,cl,rulesW [] [] ds⟩:=by
 obtain⟨r1,r2,_⟩:=rules_are ds [] [] nm cl h3 hn hc List.nodup_nil List.nodup_nil;refine⟨stable_code hS hC r1 r2,?_,lim_of hnl (by omega),?_⟩
 ·have:=rules_code hC hl r1;simpa using this
 ·have:=rulesW_len [] [] ds;simp only at this⊢;omega
theorem answers_of(hcut:CutOk){ds:List ClD}{ar:B8->Nat}{M:BA->Prop}{lay:B8->Nat}{base tb:Nat}{m1 ru:Value}{nm0 cl0:List B8}{w:World}{own:OwnF}{V:TV}{S:List TabD}(h:TIs w own base tb V ⟨.int .i32 0,m1,ru,nm0,cl0,rulesW [] [] ds⟩ (S.map TabD.q) S (sizeT S))(an:B8)(ats:List B8)(han:an.length<=12)(hts:∀i,(padW ats i).length<=12)
 (x:W3)(HX:Hid (x=atomW (nm0,cl0,[]) an ats))(hS:StableD ds M)(hC:CodeOk ds x.1 x.2.1 ar)(hl:LayD lay ds)(h3:∀d∈ds,d.ts.length<=3/\∀l∈d.lits,l.ts.length<=3)(hn:(allW [] [] ds).1<+:x.1)(hc:(allW [] [] ds).2<+:x.2.1)(hn0:nm0.length<=210)(hc0:cl0.length<=610)(hnl:x.1.length<=210)(hcl:x.2.1.length<=610)(hd:ds.length<=40)
 (hw:Words x.1 x.2.1 ar an ats)(hvs:∀t,isVar t=true->t∈ats->t∈x.2.2)(hI:Inv (CodM x.1 x.2.1 M) x.1.length (x.2.1.length+1:Nat) S)(hq:QOk x.1.length (x.2.1.length+1) (codeA x.1 x.2.1 x.2.2 an ats)):
 Calls prog 44 #[.pointer (some ⟨tb,0,none⟩),.agg #[.string (bs an),.int .i64 (ats.length:Nat),.string (bs (padW ats 0)),.string (bs (padW ats 1)),.string (bs (padW ats 2))]] w fun e w'=>∃(v:Value) (own':OwnF) (S':List TabD) (rows:List R3),e=.returned v/\AnsPost (CodM x.1 x.2.1 M) x.1.length (x.2.1.length+1) base tb ⟨.int .i32 0,m1,ru,x.1,x.2.1,rulesW [] [] ds⟩ w own S (codeA x.1 x.2.1 x.2.2 an ats) (bs an) (ats.length:Nat) v w' own' S' rows/\
  w'.ownsRow w.heap.size 54 5 v (rows.map (decB x.2.1 an ats.length)).length ((rows.map (decB x.2.1 an ats.length)).flatMap atomC)/\(rows.map (decB x.2.1 an ats.length)).Nodup/\∀b,b∈rows.map (decB x.2.1 an ats.length)↔M b/\∃s,b=(an,putsT s ats):=by
 refine(answers_c hcut h an ats (ats.length:Nat) han hts (by omega) (by omega) x HX _ (hid rfl) (sctx_of hS hC hl h3 hn hc hnl hcl hd _ _ _) hI hq ?_).mono ?_
 ·rintro y ⟨a,_,hdc⟩;have lt:∀{i:Nat} {u:B8},x.2.1[i]? =some u->i<x.2.1.length:=fun e=>(List.getElem?_eq_some_iff.1 e).1;exact⟨hdc.g,lt hdc.t0,lt hdc.t1,lt hdc.t2⟩
 ·rintro e w' ⟨v,own',S',rows,rfl,hp⟩;have ha:=answers_are hS hC hw hvs hp.nod hp.mem;have hk:=hw.len;have hrow:=hp.row;rw[rows_atoms (nm:=x.1) (n:=(codeA x.1 x.2.1 x.2.2 an ats).n) hk rows ?_]at hrow
  ·exact⟨v,own',S',rows,rfl,hp,by rw[List.length_map];exact hrow,ha.1,ha.2⟩
  ·intro y hy;obtain⟨⟨a,ha,hdc⟩,σ,hσ,rfl⟩:=(hp.mem y).1 hy;obtain⟨e,_⟩:=dec_read hw hσ (holdsD_ar hS hC ha) hdc;exact⟨_,by simp[putsT],e▸hdc⟩
theorem qok_of{nm cl vs:List B8}{ar:B8->Nat}{an:B8}{ats:List B8}(hw:Words nm cl ar an ats):QOk nm.length (cl.length+1) (codeA nm cl vs an ats):=by
 refine⟨⟨Int.natCast_nonneg _,?_⟩,?_⟩
 ·have:=posG_lt nm an hw.name;simp only[codeA];omega
 ·intro y hy;obtain⟨i,hi,rfl⟩:=codeR_has.1 hy;have:=codeT_lt (vs:=vs) (hw.consts i hi);simpa using this
structure AskOk(ds:List ClD)(ar:B8->Nat)(an:B8)(ats:List B8):Prop where
 three:∀d∈ds,d.ts.length<=3/\∀l∈d.lits,l.ts.length<=3
 four:∀d∈ds,d.lits.length<=4
 arity:∀d∈ds,d.ts.length=ar d.name/\∀l∈d.lits,l.ts.length=ar l.name
 safe:∀d∈ds,∀t,isVar t=true->(t∈d.ts\/∃l∈d.lits,l.neg=true/\t∈l.ts)->∃l∈d.lits,l.neg=false/\t∈l.ts
 q3:ats.length<=3
 qa:ats.length=ar an
 many:ds.length<=40
theorem askWords{ds:List ClD}{ar:B8->Nat}{an:B8}{ats:List B8}(h:AskOk ds ar an ats)(x:W3)(HX:Hid (x=atomW ((allW [] [] ds).1,(allW [] [] ds).2,[]) an ats)):
 CodeOk ds x.1 x.2.1 ar/\Words x.1 x.2.1 ar an ats/\(allW [] [] ds).1<+:x.1/\(allW [] [] ds).2<+:x.2.1/\(∀t,isVar t=true->t∈ats->t∈x.2.2):=by
 have hp:Pre3 ((allW [] [] ds).1,(allW [] [] ds).2,[]) x:=by rw[HX.out];exact atomW_pre _ _ _
 have hk:KnownA x an ats:=by rw[HX.out];exact atomW_known _ _ _
 have hnd:Nod3 x:=by rw[HX.out];have:=allW_nod (nm:=[]) (cl:=[]) List.nodup_nil List.nodup_nil ds;exact atomW_nod ⟨this.1,this.2,List.nodup_nil⟩ an ats
 obtain⟨_,_,r3⟩:=rules_are ds [] [] x.1 x.2.1 h.three hp.a hp.b List.nodup_nil List.nodup_nil;refine⟨⟨hnd.a,hnd.b,?_,?_,h.four,h.safe⟩,⟨hk.n,h.q3,h.qa,fun i hi=>(hk.t i hi).2⟩,hp.a,hp.b,?_⟩
 ·intro d hd;exact⟨(r3 d hd).1.1,(h.three d hd).1,(h.arity d hd).1,(r3 d hd).1.2⟩
 ·intro d hd l hl;exact⟨((r3 d hd).2 l hl).1,(h.three d hd).2 l hl,(h.arity d hd).2 l hl,((r3 d hd).2 l hl).2⟩
 ·intro t ht hm;obtain⟨i,hi,rfl⟩:=List.mem_iff_getElem.1 hm;have e:padW ats i=ats[i]:=by simp[padW,hi]
  have h3:=h.q3;have:=(hk.t i (by omega)).1;rw[e]at this;exact this ht
theorem answers_new(hcut:CutOk){ds:List ClD}{ar:B8->Nat}{M:BA->Prop}{lay:B8->Nat}{base tb:Nat}{m1 ru:Value}{w:World}{own:OwnF}{V:TV}(h:TIs w own base tb V ⟨.int .i32 0,m1,ru,(allW [] [] ds).1,(allW [] [] ds).2,rulesW [] [] ds⟩ [] [] 0)(an:B8)(ats:List B8)(han:an.length<=12)(hts:∀i,(padW ats i).length<=12)
 (hS:StableD ds M)(hl:LayD lay ds)(hq:AskOk ds ar an ats):
 Calls prog 44 #[.pointer (some ⟨tb,0,none⟩),.agg #[.string (bs an),.int .i64 (ats.length:Nat),.string (bs (padW ats 0)),.string (bs (padW ats 1)),.string (bs (padW ats 2))]] w fun e w'=>∃(v:Value) (own':OwnF) (out:List BA),e=.returned v/\Went (fun _=>True) own w own' w'/\(∀b,v.ownBlock=some b->own' b=none)/\
  w'.ownsRow w.heap.size 54 5 v out.length (out.flatMap atomC)/\out.Nodup/\∀b,b∈out↔M b/\∃s,b=(an,putsT s ats):=by
 obtain⟨x,HX⟩:∃x,Hid (x=atomW ((allW [] [] ds).1,(allW [] [] ds).2,[]) an ats):=⟨_,rfl⟩;obtain⟨hC,hw,hn,hc,hvs⟩:=askWords hq x HX;have hal:=allW_len [] [] ds hq.four;have hxl:Len3 ((allW [] [] ds).1,(allW [] [] ds).2,[]) x 1:=by rw[HX.out];exact atomW_len _ _ _
 have hla:=hxl.a;have hlb:=hxl.b;have hm:=hq.many;simp only[List.length_nil,Nat.zero_add]at hal hla hlb;refine(answers_of hcut (S:=[]) h an ats han hts x HX hS hC hl hq.three hn hc (by omega) (by omega) (by omega) (by omega) hm hw hvs ⟨List.nodup_nil,by simp,by simp,by simp,by simp,by simp⟩ (qok_of hw)).mono ?_;rintro e w' ⟨v,own',S',rows,rfl,hp,h1,h2,h3⟩;exact⟨v,own',_,rfl,hp.went,hp.free,h1,h2,h3⟩
theorem own_none{own:OwnF}{base tb:Nat}{w:World}{V:TV}{D:TD}{qs:List A4}{S:List TabD}{sz n:Nat}(h:TIs w own base tb V D qs S sz)(hn:w.heap.size<=n):own n=none:=by
 cases e:own n with
 |none=>rfl
 |some o=>exact absurd (h.ok.lt _ o e).2 (by omega)
theorem answerOk_of(hcut:CutOk){ds:List ClD}{ar:B8->Nat}{M:BA->Prop}{lay:B8->Nat}(w:World)(base bb:Nat)(s:ByteArray)(ao:Option Addr)(cap:Nat)(hb:Blk w bb [.slice ao ds.length cap] 51)(hP:ClausesIs w base (.slice ao ds.length cap) ds)(hW:∀d∈ds,d.WF)(an:B8)(ats:List B8)(han:an.length<=12)(hts:∀i,(padW ats i).length<=12)(s0 s1 s2 s3 s4:Int)
 (hS:StableD ds M)(hl:LayD lay ds)(hq:AskOk ds ar an ats)(hwk:workAll (max 1 (constsD ds).length) ds<=2000)(hout:∀b,M b->(∃s,b=(an,putsT s ats))->∀t∈b.2,t.length<=12)(hlen:∀out:List BA,out.Nodup->(∀b,b∈out↔M b/\∃s,b=(an,putsT s ats))->out.length<=100000000000)
 (HR:Hid (∀W:World,Below w.heap.size w W->Calls prog 37 #[.pointer (some ⟨bb,0,none⟩),.string s] W fun e w'=>e=.returned (.tuple #[.agg #[.string (bs an),.int .i64 (ats.length:Nat),.string (bs (padW ats 0)),.string (bs (padW ats 1)),.string (bs (padW ats 2))],.agg #[.int .i64 s0,.int .i64 s1,.int .i64 s2,.int .i64 s3,.int .i64 s4],.int .i64 0,.int .i64 0])/\Below W.heap.size W w'))
 (tb:Nat)(own:OwnF)(V:TV)(m1 ru:Value)(hT:TIs w own tb tb V ⟨.int .i32 0,m1,ru,(allW [] [] ds).1,(allW [] [] ds).2,rulesW [] [] ds⟩ [] [] 0):
 Calls prog 28 #[.pointer (some ⟨bb,0,none⟩),.string s,.pointer (some ⟨tb,0,none⟩)] w fun e w'=>∃vo vn vc,e=.returned (.agg #[.slice vo vn vc,.int .i64 0,.int .i64 0])/\∃out:List BA,out.Nodup/\(∀b,b∈out↔M b/\∃s,b=(an,putsT s ats))/\w'.ownsRow w.heap.size 9 1 (.slice vo vn vc) out.length (((out.map shownA).mergeSort fun x y=>decide (x<=y)).map fun z=>.string (bs z))/\Below tb w w':=by
 have hbt:=hT.ok.base
 refine(answerOk_by w bb tb s _ _ _ _ _ s0 s1 s2 s3 s4 ao ds.length cap hb
  (fun v W=>∃out:List BA,out.Nodup/\(∀b,b∈out↔M b/\∃s,b=(an,putsT s ats))/\W.ownsRow w.heap.size 54 5 v out.length (out.flatMap atomC)/\w.heap.size<W.heap.size/\Below tb w W)
  (fun v W=>∃(vo:Option Addr) (vn vc:Nat) (out:List BA) (B:Nat),v=.slice vo vn vc/\w.heap.size<B/\out.Nodup/\(∀b,b∈out↔M b/\∃s,b=(an,putsT s ats))/\W.ownsRow B 9 1 v out.length (((out.map shownA).mergeSort fun x y=>decide (x<=y)).map fun z=>.string (bs z))/\Below tb w W)
  HR (hid ?_) (hid ?_) (hid ?_)).mono ?_
 ·intro W hB;have:=isAbove_c W base ao cap ds 2000 (by omega) (by omega) (hP.below hB) hW hq.many;rw[decide_eq_false (by omega)]at this;exact this
 ·intro W hB hN;refine(answers_new hcut (hT.below hB) an ats han hts hS hl hq).mono ?_;rintro e w' ⟨v,own',out,rfl,hg,hf,hr,h1,h2⟩;have hs:=hg.only.size;have hlt:=hN.lt;exact⟨v,rfl,⟨out,h1,h2,hr.mono hB.size,by omega,(hB.mono hbt).trans (hg.only.below (Nat.le_trans hbt hB.size) (fun k ⟨o,e,_⟩=>(hT.ok.lt k o e).1))⟩,hN.went hg (own_none hT (Nat.le_refl _))⟩
 ·rintro v W ⟨out,h1,h2,hr,hlt,hB⟩ hN;obtain⟨ao',cap',rfl⟩:=own_form hr;refine(printSorted_c W w.heap.size ao' cap' out hr ?_ (hlen out h1 h2)).mono ?_
  ·intro b hb';obtain⟨hM,s,e⟩:=(h2 b).1 hb';have:=hout b hM ⟨s,e⟩;subst e;exact⟨han,by have:=hq.q3;simp only[putsT,List.length_map];omega,this⟩
  ·rintro e w' ⟨v',rfl,hr',hB'⟩;obtain⟨vo,vc,rfl⟩:=own_form hr';exact⟨vo,_,vc,rfl,⟨vo,_,vc,out,W.heap.size,rfl,hlt,h1,h2,hr',hB.trans (hB'.mono (by have:=hB.size;omega))⟩,hN.below hB'⟩
 ·rintro e w' ⟨v,w3,rfl,⟨vo,vn,vc,out,B,rfl,hlt,h1,h2,hr,hB⟩,ho⟩;refine⟨vo,vn,vc,rfl,out,h1,h2,(own_only hr ho (fun q hq e=>?_)).mono (by omega),hB.trans (ho.below (by have:=hB.size;omega) (fun k e=>by omega))⟩;have:=(hr.lt q hq).1;omega
theorem askOk_of(hcut:CutOk){ds:List ClD}{ar:B8->Nat}{M:BA->Prop}{lay:B8->Nat}(w:World)(base bb:Nat)(s:ByteArray)(ao:Option Addr)(cap:Nat)(hb:Blk w bb [.slice ao ds.length cap] 51)(hP:ClausesIs w base (.slice ao ds.length cap) ds)(hW:∀d∈ds,d.WF)(an:B8)(ats:List B8)(han:an.length<=12)(hts:∀i,(padW ats i).length<=12)(s0 s1 s2 s3 s4:Int)
 (hS:StableD ds M)(hl:LayD lay ds)(hq:AskOk ds ar an ats)(hwk:workAll (max 1 (constsD ds).length) ds<=2000)(hout:∀b,M b->(∃s,b=(an,putsT s ats))->∀t∈b.2,t.length<=12)(hlen:∀out:List BA,out.Nodup->(∀b,b∈out↔M b/\∃s,b=(an,putsT s ats))->out.length<=100000000000)
 (HR:Hid (∀W:World,Below w.heap.size w W->Calls prog 37 #[.pointer (some ⟨bb,0,none⟩),.string s] W fun e w'=>e=.returned (.tuple #[.agg #[.string (bs an),.int .i64 (ats.length:Nat),.string (bs (padW ats 0)),.string (bs (padW ats 1)),.string (bs (padW ats 2))],.agg #[.int .i64 s0,.int .i64 s1,.int .i64 s2,.int .i64 s3,.int .i64 s4],.int .i64 0,.int .i64 0])/\Below W.heap.size W w')):
 Calls prog 20 #[.pointer (some ⟨bb,0,none⟩),.string s] w fun e w'=>∃vo vn vc,e=.returned (.tuple #[.slice vo vn vc,.int .i64 0,.int .i64 0])/\∃out:List BA,out.Nodup/\(∀b,b∈out↔M b/\∃s,b=(an,putsT s ats))/\w'.ownsRow w.heap.size 9 1 (.slice vo vn vc) out.length (((out.map shownA).mergeSort fun x y=>decide (x<=y)).map fun z=>.string (bs z))/\Below w.heap.size w w':=by
 refine(ask_by w bb s ao ds.length cap hb
  (fun tb W=>w.heap.size<=tb/\Below w.heap.size w W/\∃own V ru,TIs W own tb tb V ⟨.int .i32 0,.int .u32 0,ru,(allW [] [] ds).1,(allW [] [] ds).2,rulesW [] [] ds⟩ [] [] 0)
  (fun v er pl W=>er=0/\pl=0/\∃out:List BA,out.Nodup/\(∀b,b∈out↔M b/\∃s,b=(an,putsT s ats))/\W.ownsRow w.heap.size 9 1 v out.length (((out.map shownA).mergeSort fun x y=>decide (x<=y)).map fun z=>.string (bs z))/\Below w.heap.size w W)
  (hid ?_) (hid ?_)).mono ?_
 ·intro W hB;refine(new_c W base ao cap ds (hP.below hB) hW hq.many).mono ?_;rintro e w' ⟨own,V,ru,rfl,hT,hB'⟩;exact⟨_,rfl,hB.size,hB.trans (hB'.mono hB.size),own,V,ru,hT⟩
 ·rintro tb W ⟨htb,hB,own,V,ru,hT⟩;refine(answerOk_of hcut W base bb s ao cap (hb.below hB) (hP.below hB) hW an ats han hts s0 s1 s2 s3 s4 hS hl hq hwk hout hlen (hid fun W' h'=>HR.out W' (hB.trans (h'.mono hB.size))) tb own V _ ru hT).mono ?_;rintro e w' ⟨vo,vn,vc,rfl,out,h1,h2,hr,hB'⟩;exact⟨vo,vn,vc,0,0,rfl,rfl,rfl,out,h1,h2,hr.mono hB.size,hB.trans (hB'.mono htb)⟩
 ·rintro e w' ⟨vo,vn,vc,er,pl,w1,rfl,⟨rfl,rfl,out,h1,h2,hr,hB⟩,hB'⟩;exact⟨vo,vn,vc,rfl,out,h1,h2,own_below hr hB',hB.trans (hB'.mono hB.size)⟩
end
end Go.Proofs.YtpbfiffgcgnidaaGreat
