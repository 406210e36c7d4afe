import Derived.Test.YtpbfiffgcgnidaaGreatYal
import Derived.Test.YtpbfiffgcgnidaaGreatY35
namespace Go.Proofs.YtpbfiffgcgnidaaGreat
set_option maxRecDepth 100000
set_option maxHeartbeats 4000000
set_option linter.unusedSimpArgs false
open Go.Proofs.Tryz
section
attribute [local go_sem] drewN_alloc drewN_setCell
open Go.RowKit Go.WideMaps Go.Maps
theorem readFact_ok(w:World)(base bb:Nat)(ds:List ClD)(hI:BaseIs w base bb ds)(hW:∀d∈ds,d.WF)(hn:ds.length<=40)(s:ByteArray)(hs:s.size<=2000)(hok:(qAtom s).ok=true)(hend:(skipL (qAtom s).rest).isEmpty=true)
 (hknow:hasW (countsR ds).1 (qAtom s).name=true)(hfit:nAt (countsR ds).2 (posIn (countsR ds).1 (qAtom s).name)=((qAtom s).ts.length:Nat))(hnl:(qAtom s).name.length<=12)(hgr:fv (qAtom s).ts= -1)(h3:(qAtom s).ts.length<=3):
 Calls prog 24 #[.pointer (some ⟨bb,0,none⟩),.string s] w fun e w'=>e=.returned (.tuple #[.agg (atomCells (qAtom s).name (qAtom s).ts).toArray,.int .i64 0,.int .i64 0])/\Below w.heap.size w w':=by
 have HQ:=hid (fun(W:World) (h:BaseIs W base bb ds)=>question_ok W base bb ds h hW hn s hs hok hend hknow hfit hnl);have HI:=hid hI;have hP0:=Blk.new w zA 54;have hB0:Below w.heap.size w (w.alloc (.cells zA.toArray 54)):=below_alloc _ _;have HP0:=hid hP0;have HB0:=hid hB0;clear hP0 hI;obtain⟨A,HA⟩:∃A,Hid (A=qAtom s):=⟨_,rfl⟩;rw[<-HA.out]at hgr h3⊢;have HV:Hid (∀W:World,BaseIs W base bb ds->Calls prog 37 #[.pointer (some ⟨bb,0,none⟩),.string s] W fun e w'=>e=.returned (.tuple #[.agg #[.string A.nm,.int .i64 A.cn,.string (A.t 0),.string (A.t 1),.string (A.t 2)],.agg #[.int .i64 0,.int .i64 A.np',.int .i64 (A.p 0),.int .i64 (A.p 1),.int .i64 (A.p 2)],.int .i64 0,.int .i64 0])/\Below W.heap.size W w'):=by intro W h;rw[HA.out];exact HQ.out W h
 have HG:Hid (∀W:World,Calls prog 38 #[.agg #[.string A.nm,.int .i64 A.cn,.string (A.t 0),.string (A.t 1),.string (A.t 2)]] W fun e w'=>e=.returned (.int .i64 (-1))/\Below W.heap.size W w'):=by intro W;have:=firstVariable_c W A.nm A.ts h3;rw[hgr]at this;exact this
 clear HQ hok hend hknow hfit hnl hgr h3 HA hB0;go_enter func24,ntmps24;go_wp2_with fail;refine(HV.out _ (by exact HI.out.below HB0.out)).mono ?_;rintro e w1 ⟨rfl,hB1⟩;have hP1:=HP0.out.below hB1;have hBw1:Below w.heap.size w w1:=HB0.out.trans (hB1.mono (by simp));have hC1:=new_one w1 [.string A.nm,.int .i64 A.cn,.string (A.t 0),.string (A.t 1),.string (A.t 2)] 54 [.int .i64 0,.int .i64 A.np',.int .i64 (A.p 0),.int .i64 (A.p 1),.int .i64 (A.p 2)] 82;go_wp2_with fail;refine(HG.out _).mono ?_;rintro e w2 ⟨rfl,hB2⟩;have hBx:Below w1.heap.size w1 ((w1.alloc (.cells #[.string A.nm,.int .i64 A.cn,.string (A.t 0),.string (A.t 1),.string (A.t 2)] 54)).alloc (.cells #[.int .i64 0,.int .i64 A.np',.int .i64 (A.p 0),.int .i64 (A.p 1),.int .i64 (A.p 2)] 82)):=((Below.refl _ w1).alloc (Nat.le_refl _) _).alloc (by simp) _;have hP2:=(hP1.below hBx).below hB2;have hC2:=hC1.below hB2;have hz1:w.heap.size<w1.heap.size:=hP1.lt;have hz2:w1.heap.size<w2.heap.size:=hC2.lt;have hz3:w.heap.size<w1.heap.size+1:=by omega
 have HB2:=hid ((hBw1.trans (hBx.mono (by omega))).trans (hB2.mono (by simp;omega)));have fP:=hP2.frozen;obtain⟨a0,a1,a2,a3,a4⟩:=hP2.c5;obtain⟨c0,c1,c2,c3,c4⟩:=hC2.c5;clear hP2 hC2 hP1 hC1 hBx hB1 hBw1 hB2 HV HG HI HP0 HB0;go_wp2_with fail
 ·refine bodyPost_ret (v:=.tuple #[.agg #[.string A.nm,.int .i64 A.cn,.string (A.t 0),.string (A.t 1),.string (A.t 2)],.int .i64 0,.int .i64 0]) (by simp[results,results24,go_sem,a0,a1,a2,a3,a4]) rfl ⟨rfl,?_⟩
  repeat (refine Below.setCell ?_ (by simp only[];omega) _)
  exact HB2.out
open Go.RowKit Go.WideMaps Go.Maps
attribute [local go_sem] drewN_alloc drewN_setCell
def Reads(base bb:Nat)(ds:List ClD)(s:ByteArray)(an:B8)(ats:List B8):Prop:=
 ∀W:World,BaseIs W base bb ds->Calls prog 24 #[.pointer (some ⟨bb,0,none⟩),.string s] W fun e w'=>e=.returned (.tuple #[.agg (atomCells an ats).toArray,.int .i64 0,.int .i64 0])/\Below W.heap.size W w'
structure Asked(base bb:Nat)(ds:List ClD)(s:ByteArray)(found:Bool)(x y0 y1 y2:ByteArray)(n:Int):Prop where
 reads:∀W:World,BaseIs W base bb ds->Calls prog 24 #[.pointer (some ⟨bb,0,none⟩),.string s] W fun e w'=>e=.returned (.tuple #[.agg #[.string x,.int .i64 n,.string y0,.string y1,.string y2],.int .i64 0,.int .i64 0])/\Below W.heap.size W w'
 factOf:∀W:World,Calls prog 26 #[.agg #[.string x,.int .i64 n,.string y0,.string y1,.string y2]] W fun e w'=>e=.returned (.func (.func 40) #[] #[.pointer (some ⟨W.heap.size,0,none⟩)])/\Blk w' W.heap.size [.string x,.int .i64 n,.string y0,.string y1,.string y2] 54/\Below W.heap.size W w'
 has:∀(W:World) (ao:Option Addr) (cap B:Nat),ClausesIs W base (.slice ao ds.length cap) ds->Blk W B [.string x,.int .i64 n,.string y0,.string y1,.string y2] 54->Calls prog 25 #[.slice ao ds.length cap,.func (.func 40) #[] #[.pointer (some ⟨B,0,none⟩)]] W fun e w'=>e=.returned (.bool found)/\Below W.heap.size W w'
theorem asked(base bb:Nat)(ds:List ClD)(hW:∀d∈ds,d.WF)(hn:ds.length<=40)(s:ByteArray)(an:B8)(ats:List B8)(hR:Reads base bb ds s an ats):
 Asked base bb ds s (decide (0<=idx an ats ds)) (bs an) (bs (ats.getD 0 [])) (bs (ats.getD 1 [])) (bs (ats.getD 2 [])) (ats.length:Nat):=by
 refine⟨hR,?_,fun W ao cap B hC hA=>containsCl_c W base ao cap ds hC hW hn B an ats hA⟩;intro W;refine(isFactOf_c W an ats).mono ?_;rintro e w' ⟨rfl,rfl⟩;exact⟨rfl,Blk.new W (atomCells an ats) 54,below_alloc _ _⟩
open Go.RowKit Go.WideMaps Go.Maps
attribute [local go_sem] drewN_alloc drewN_setCell
theorem assert_more2(w:World)(base bb:Nat)(v:Value)(ds:List ClD)(hV:Blk w bb [v] 51)(hL:ClausesIs w base v ds)(hbase:base<=w.heap.size)(s:ByteArray)(x y0 y1 y2:ByteArray)(n:Int)(hl:ds.length<40)(d:ClD)(hd:d.lits=[])(hdc:atomCells d.name d.ts=[.string x,.int .i64 n,.string y0,.string y1,.string y2])(hA:Asked base bb ds s false x y0 y1 y2 n):
 Calls prog 19 #[.pointer (some ⟨bb,0,none⟩),.string s] w fun e w'=>e=.returned (.tuple #[.int .i64 0,.int .i64 0])/\(∃v',Blk w' bb [v'] 51/\ClausesIs w' base v' (ds++[d])/\(v'.ownBlock=v.ownBlock\/∀k,v'.ownBlock=some k->w.heap.size<=k))/\Only (fun k=>k=bb\/v.ownBlock=some k) w w':=by
 have hw0:bb<w.heap.size:=hV.lt;obtain⟨ao,cap,rfl⟩:=hL.form;have hI:BaseIs w base bb ds:=⟨_,hV,hL⟩;have HR:=hid (hA.reads w hI);have HF:=hid hA.factOf;have HH:=hid hA.has;have HI:=hid hI;clear hA hI;go_enter func19,ntmps19;go_wp2_with fail;refine(HR.out).mono ?_;rintro e w1 ⟨rfl,hB1⟩;have HIx:=hid ((HI.out.below hB1).below (below_alloc w1 (.cells #[.string x,.int .i64 n,.string y0,.string y1,.string y2] 54)));have HBx:=hid (hB1.trans ((below_alloc w1 (.cells #[.string x,.int .i64 n,.string y0,.string y1,.string y2] 54)).mono hB1.size));have hzz:=HBx.out.size;have h1:=(hV.below hB1).below (below_alloc w1 (.cells #[.string x,.int .i64 n,.string y0,.string y1,.string y2] 54));have h2:=(hL.below hB1).below (below_alloc w1 (.cells #[.string x,.int .i64 n,.string y0,.string y1,.string y2] 54));have hlt:=(HI.out.below hB1);obtain⟨v',k1,k2⟩:=hlt;have hlt:=k1.lt;have hne:bb≠w1.heap.size:=by omega
 have c0:=h1.cell 0;have H1:=hid h1;have H2:=hid (h2.below (Below.refl _ _).drew);clear h1 h2 HI HR HIx k1 k2;have hsize:(w1.alloc (.cells #[.string x,.int .i64 n,.string y0,.string y1,.string y2] 54)).heap.size=w1.heap.size+1:=by simp
 obtain⟨q0,q1,q2,q3,q4⟩:=(Blk.new w1 [.string x,.int .i64 n,.string y0,.string y1,.string y2] 54).c5;have HQ:=hid (Blk.new w1 [.string x,.int .i64 n,.string y0,.string y1,.string y2] 54);obtain⟨i1,hi1,hy0,hy1,hy2⟩:=info_parts infoClause;go_wp2_with fail;generalize hw:(w1.alloc (.cells #[.string x,.int .i64 n,.string y0,.string y1,.string y2] 54))=u at*;generalize w1.heap.size=B1 at*;clear hw hB1
 go_region_with (first|(go_at_call 26;refine(HF.out _).mono ?_;rintro e w2 ⟨rfl,hA2,hB2⟩;have c02:=(H1.out.drew.below hB2).cell 0)|(go_at_call 25;refine(HH.out w2 ao cap (B1+1) (H2.out.below hB2) (by rw[<-hsize];exact hA2)).mono ?_;rintro e w3 ⟨rfl,hB3⟩))
 all_goals
  have hB23:=hB2.trans (hB3.mono hB2.size);have hB:=HBx.out.drew.trans (hB23.mono (by simp;omega));have hC:=H1.out.drew.below hB23;have c03:=hC.cell 0;have fC:=hC.frozen;have hP:=H2.out.below hB23;have hq:=(HQ.out.drew.below hB23);obtain⟨p0,p1,p2,p3,p4⟩:=hq.c5;have hbw:bb<w3.heap.size:=hC.lt;have hbq:B1<w3.heap.size:=hq.lt;obtain⟨rows,ho,hrl,hr⟩:=hP;clear H1 H2 HQ HF HH HBx q0 q1 q2 q3 q4 c0 c02 hA2 hB2 hB3 hB23 hq;go_wp2_with fail;have hown:∀o2,((w3.alloc o2).drew).ownsRow base 60 6 (.slice ao ds.length cap) ds.length rows.flatten:=fun o2=>ho.alloc o2;have hnews:∀j u,[Value.string x,.int .i64 n,.string y0,.string y1,.string y2,.slice none 0 0][j]? =some u->((w3.alloc (.cells #[Value.string x,.int .i64 n,.string y0,.string y1,.string y2,.slice none 0 0] 60)).drew).cell? ((⟨w3.heap.size,0,none⟩:Addr).add j)=some u:=fun j u h=>new_cells w3 [Value.string x,.int .i64 n,.string y0,.string y1,.string y2,.slice none 0 0] 60 j u h
  have hone:∀u∈[Value.string x,.int .i64 n,.string y0,.string y1,.string y2,.slice none 0 0],u.oneCell'=true:=by
   intro u hu;simp at hu;rcases hu with rfl|rfl|rfl|rfl|rfl|rfl<;>rfl
  have hlm:ds.length+1<=maxLen:=by unfold maxLen;omega
  have hlb:(ds.length+1)*96<=140737488355328:=by omega
  have hBB:∀o2,base<=((w3.alloc o2).drew).heap.size:=by intro o2;simp;omega
  have hne1:=own_ne ho hC (by decide);have hbs:=own_base ho
  go_region_law (refine step_append_at _ rfl (.tmp 37) (.tmp 40) 49 rfl base 60 i1 _ 6 96 underlying49 hi1 hy0 hy1 hy2 rfl (by decide) (.slice ao ds.length cap) ds.length rows.flatten (by simp[Act.eval]) (hown _) ⟨w3.heap.size,0,none⟩ 1 1 [Value.string x,.int .i64 n,.string y0,.string y1,.string y2,.slice none 0 0] (by simp[Act.eval]) (by decide) rfl hnews hone hlm hlb (hBB _) ?_;intro g2 cap2 w4 ho4 hg4 hw4;have hC4:=(hC.alloc _).drew.grown hg4 hne1;have d0:=hC4.cell 0;have fC4:=hC4.frozen;simp at d0)
  all_goals
   go_wp2_with fail;go_ret2;have hKd:KeptIs w3 base d [Value.string x,.int .i64 n,.string y0,.string y1,.string y2,.slice none 0 0]:=⟨.slice none 0 0,by rw[hdc];rfl,by rw[hd];exact World.ownsRow_nil _ _ _ _⟩;have h2:=fun o2=>(below_alloc w3 o2).drew;have hmore:=ClausesIs.more (w:=(w3.alloc _).drew) (w':=w4) (base:=base) (ds:=ds) (fun i d cs h1 h3=>(hr i d cs h1 h3).below (h2 _)) hrl (hown _) (hKd.below (h2 _)) ho4 hg4;refine⟨rfl,⟨_,hC4.setCell 0 _,hmore.set hC4 (by decide) (by decide) 0 _,?_⟩,?_⟩
   ·rcases hw4 with h|h
    ·exact .inl h
    ·refine .inr (fun k hk=>?_);simp[Value.ownBlock]at hk;simp at h;have:=hB.size;omega
   ·refine Only.setCell ?_ (.inl (.inl rfl)) _;have h4:=fun o2=>Only.drew (Only.alloc (Only.of_below (S:=fun k=>k=bb\/(Value.slice ao ds.length cap).ownBlock=some k) hB) o2);exact(h4 _).trans (Only.of_grown (S:=fun k=>k=bb\/(Value.slice ao ds.length cap).ownBlock=some k) hg4 (fun k hk=>.inr hk)) (fun k _ hk=>hk)
end
end Go.Proofs.YtpbfiffgcgnidaaGreat
