import Derived.Test.YtpbfiffgcgnidaaGreatDoorYal
import Derived.Deep.MidRow
import Derived.Great.BuildSlice
import Derived.Test.YtpbfiffgcgnidaaGreatDoorY13
import Derived.Test.YtpbfiffgcgnidaaGreatDoorY19
namespace Go.Proofs.YtpbfiffgcgnidaaGreatDoor
set_option maxRecDepth 100000
set_option maxHeartbeats 4000000
set_option linter.unusedSectionVars false
set_option linter.unusedSimpArgs false
open Go.Proofs.Tryz
section
open Go.RowKit Go.WideMaps Go.Maps
theorem BY.only{S:Nat->Prop}{w w':World}{base:Nat}{a:RA}{cs:List Value}(h:BY w base a cs)(j:A3 S w w')(ht:Df w S 130):BY w' base a cs:=by obtain⟨tv,hc,q⟩:=h;exact⟨tv,hc,BI q j (F2 q ht)⟩
theorem EN.only{S:Nat->Prop}{w w':World}{base:Nat}{v:Value}{b:List RA}(h:EN w base v b)(q:A3 S w w')(ht:Df w S 130)(z:Df w S 69):EN w' base v b:=by obtain⟨rows,j,k,y⟩:=h;exact⟨rows,BI j q (F2 j z),k,fun i a cs h1 h2=>(y i a cs h1 h2).only q ht⟩
theorem BT.only{S:Nat->Prop}{w w':World}{base:Nat}{c:RC}{cs:List Value}(h:BT w base c cs)(q:A3 S w w')(ht:Df w S 130)(z:Df w S 69):BT w' base c cs:=by obtain⟨hc,j,e,h1,h2⟩:=h;exact⟨hc,j,e,h1.only q ht,h2.only q ht z⟩
theorem Ck.only{S:Nat->Prop}{w w':World}{base:Nat}{v:Value}{l:List RC}(h:Ck w base v l)(q:A3 S w w')(ht:Df w S 130)(j:Df w S 69)(hn:∀k,v.ownBlock=some k->¬S k):Ck w' base v l:=by obtain⟨rows,u,y,z⟩:=h;exact⟨rows,BI u q hn,y,fun i c cs h1 h2=>(z i c cs h1 h2).only q ht j⟩
end
section
attribute [local go_sem] AE As
open Go.RowKit Go.WideMaps Go.Maps
variable [DecidableEq R3] [DecidableEq A4]
def Lg(D:DataW Unit)(xs:List A4):Prop:=
 IsMap D/\∀k:A4,k.Wf->Maps.has D (Nk k)=decide (k∈xs)/\D.atKey (Nk k) (.lit (.int .i64 0))=.lit (.int .i64 (Ci xs k))
theorem Lg.nil:Lg (.map []) []:=⟨isMap_empty,fun _ _=>⟨rfl,rfl⟩⟩
theorem Lg.put{D:DataW Unit}{xs:List A4}(h:Lg D xs)(k:A4)(u:k.Wf)(v:k∉xs):Lg (D.put (Nk k) (.lit (.int .i64 xs.length))) (xs++[k]):=by
 refine⟨h.1.put _ _,fun j y=>?_⟩;by_cases z:j=k
 ·subst z;rw[has_put_same h.1 (mJ j),atKey_put_same h.1 (mJ j),Gd xs j v];exact⟨by simp,rfl⟩
 ·have q:(Nk j)≠(Nk k):=fun e=>z (nQ j k y u e);rw[has_put_other q,atKey_put_other q,(h.2 j y).1,(h.2 j y).2,Lz xs k j z];exact⟨by simp[z],rfl⟩
def C1(w:World)(base:Nat)(mv lv:Value)(xs:List A4):Prop:=
 w.ownsRow base 223 4 lv xs.length (xs.flatMap fun k=>(CQ k))/\(∀k∈xs,k.Wf)/\
 ((mv=.map none/\xs=[])\/∃r D,mv=.map (some r)/\base<=r/\w.ownsMap (H:=Unit) prog 223 (plainElem prog 3) r xs.length D/\Lg D xs)
theorem C1.nil(w:World)(base:Nat):C1 w base (.map none) (.slice none 0 0) []:=⟨Ak _ _ _ _,by simp,.inl ⟨rfl,rfl⟩⟩
theorem C1.below{base:Nat}{w w':World}{mv lv:Value}{xs:List A4}(h:C1 w base mv lv xs)(hb:Below w.heap.size w w'):C1 w' base mv lv xs:=by
 refine⟨Ah h.1 hb,h.2.1,?_⟩;rcases h.2.2 with h2|⟨r,D,j,y,z,q⟩
 ·exact .inl h2
 ·exact .inr ⟨r,D,j,y,Fy z hb,q⟩
theorem C1.only{S:Nat->Prop}{base:Nat}{w w':World}{mv lv:Value}{xs:List A4}(h:C1 w base mv lv xs)(j:A3 S w w')(y:∀q,lv.ownBlock=some q->¬S q)(k:∀q,AN mv=some q->¬S q):C1 w' base mv lv xs:=by
 refine⟨BI h.1 j y,h.2.1,?_⟩;rcases h.2.2 with h2|⟨r,D,rfl,v,u,z⟩
 ·exact .inl h2
 ·exact .inr ⟨r,D,rfl,v,LB u j (k r rfl),z⟩
theorem C1.lt{base:Nat}{w:World}{mv lv:Value}{xs:List A4}(h:C1 w base mv lv xs):(∀q,lv.ownBlock=some q->base<=q/\q<w.heap.size)/\∀q,AN mv=some q->base<=q/\q<w.heap.size:=by
 refine⟨fun q hq=>h.1.lt q hq,?_⟩;rcases h.2.2 with⟨rfl,_⟩|⟨r,D,rfl,j,z,hD⟩
 ·intro q hq;simp[AN]at hq
 ·intro q hq;simp only[AN,Al]at hq;subst hq;exact⟨j,z.lt⟩
theorem C1.alloc{base:Nat}{w:World}{mv lv:Value}{xs:List A4}(h:C1 w base mv lv xs)(o:Obj):C1 (w.alloc o) base mv lv xs:=h.below (Ac w o)
theorem RD(w:World)(base sb o:Nat)(mv lv:Value)(xs:List A4)(k:A4)(m:w.cell? ⟨sb,o,none⟩=some mv)(hS:C1 w base mv lv xs)(d:k.Wf):
 Calls prog 227 #[.pointer (some ⟨sb,o,none⟩),(.agg #[.int .i64 k.n,.int .i64 k.r.a,.int .i64 k.r.b,.int .i64 k.r.c])] w fun e w'=>e=.returned (.tuple #[.int .i64 (Ci xs k:Nat),.bool (decide (k∈xs))])/\Below w.heap.size w w':=by
 have q:keyOf prog 223 (.agg #[.int .i64 k.n,.int .i64 k.r.a,.int .i64 k.r.b,.int .i64 k.r.c])=some (Nk k):=Rr k d;have q1:=FX m;have z:=Ag w.heap.size w;have y:=Ac w (.cells #[.int .i64 k.n,.int .i64 k.r.a,.int .i64 k.r.b,.int .i64 k.r.c] 223);rcases hS.2.2 with⟨rfl,rfl⟩|⟨r,D,rfl,hr,j,x⟩
 ·have q0:=fun w:World=>look_nil (w:=w) true fY underlying212 (KO w) q;go_enter func227,ntmps227;go_wp2_with fail;go_region;go_wp2_with fail;go_ret2;exact⟨rfl,by first|exact z|exact y.drew⟩
 ·obtain⟨s,g⟩:=x.2 k d;obtain⟨p,t⟩:∃p:Int,Hid (p=(Ci xs k:Nat)):=⟨_,rfl⟩;rw[<-t.out]at g⊢;have look:∀W:World,W.ownsMap (H:=Unit) prog 223 (plainElem prog 3) r xs.length D->(Instr.lookup 212 (.map (some r)) (.agg #[.int .i64 k.n,.int .i64 k.r.a,.int .i64 k.r.b,.int .i64 k.r.c]) true).run prog W=.ok (.tuple #[.int .i64 p,.bool (decide (k∈xs))]) W:=by intro W hW;obtain⟨v,ps,u,hR⟩:=hW.look_ok fY underlying212 (KO W) (C2 underlying3 (by decide)) q;obtain⟨c,rfl,hc,_⟩:=No underlying3 hR;have e:=Bl Prod.fst hc;simp only[]at e;rw[g]at e;simp at e;rw[u,s,<-e]
  have l0:=look w j;have l1:=look (w.alloc (.cells #[.int .i64 k.n,.int .i64 k.r.a,.int .i64 k.r.b,.int .i64 k.r.c] 223)).drew (by exact j.alloc _);clear look;go_enter func227,ntmps227;go_wp2_with fail;go_region;go_wp2_with fail;go_ret2;exact⟨rfl,by first|exact z|exact y.drew⟩
theorem iF(w:World)(base sb o:Nat)(mv lv:Value)(xs:List A4)(k:A4)(v:w.cell? ⟨sb,o,none⟩=some mv)(hS:C1 w base mv lv xs)(d:k.Wf)(hx:k∈xs):
 Calls prog 218 #[.pointer (some ⟨sb,o,none⟩),(.agg #[.int .i64 k.n,.int .i64 k.r.a,.int .i64 k.r.b,.int .i64 k.r.c])] w fun e w'=>e=.returned (.tuple #[.int .i64 (Ci xs k),.bool false])/\Below w.heap.size w w':=by
 obtain⟨p,g⟩:∃p:Int,Hid (p=(Ci xs k:Nat)):=⟨_,rfl⟩;have u:=FX v;have q:=Ac w (.cells #[.int .i64 k.n,.int .i64 k.r.a,.int .i64 k.r.b,.int .i64 k.r.c] 223);have z:=RD w base sb o mv lv xs k v hS d;have y:=RD (w.alloc (.cells #[.int .i64 k.n,.int .i64 k.r.a,.int .i64 k.r.b,.int .i64 k.r.c] 223)) base sb o mv lv xs k (by rw[q.cell (p:=⟨sb,o,none⟩) u];exact v) (hS.alloc _) d;rw[Bq hx,<-g.out]at z y;rw[<-g.out];go_enter func218,ntmps218;go_wp2_with (go_at_call 227;first|(refine z.mono ?_;rintro e w9 ⟨rfl,j⟩)|(refine y.mono ?_;rintro e w9 ⟨rfl,j⟩));go_ret2;exact⟨rfl,by first|exact j|exact q.trans (j.mono q.size)⟩
theorem iJ(w:World)(base sb o:Nat)(cs:List Value)(t:TypeId)(mv lv:Value)(xs:List A4)(k:A4)(L:Aw w sb cs t)(I:cs[o]? =some mv)(h1:cs[o+1]? =some lv)(hS:C1 w base mv lv xs)(O:k.Wf)(hx:k∉xs)(hn:xs.length<=1000000000000)(ht:t≠223)(y5:base<=w.heap.size):
 Calls prog 218 #[.pointer (some ⟨sb,o,none⟩),(.agg #[.int .i64 k.n,.int .i64 k.r.a,.int .i64 k.r.b,.int .i64 k.r.c])] w fun e w'=>e=.returned (.tuple #[.int .i64 xs.length,.bool true])/\
  ∃A lv',Aw w' sb ((cs.set o A).set (o+1) lv') t/\C1 w' base A lv' (xs++[k])/\Cs w w' sb mv lv A lv':=by
 have c0:w.cell? ⟨sb,o,none⟩=some mv:=(L.cell o).trans I;have y8:o+1<cs.length:=(List.getElem?_eq_some_iff.1 h1).1;have C:keyOf prog 223 (.agg #[.int .i64 k.n,.int .i64 k.r.a,.int .i64 k.r.b,.int .i64 k.r.c])=some (Nk k):=Rr k O;obtain⟨i1,q2,q8,q9,j0⟩:=Bc mN;obtain⟨pp,HP⟩:∃p:Int,Hid (p=(Ci xs k:Nat)):=⟨_,rfl⟩;have hF:=RD (w.alloc (.cells #[.int .i64 k.n,.int .i64 k.r.a,.int .i64 k.r.b,.int .i64 k.r.c] 223)) base sb o mv lv xs k (((L.alloc _).cell o).trans I) (hS.alloc _) O;rw[A5 hx,<-HP.out]at hF;obtain⟨ao,cap,rfl⟩:=Au hS.1
 have q7:∀j∈xs++[k],j.Wf:=by
  intro j hj;rw[Bi,A7]at hj;rcases hj with hj|rfl
  ·exact hS.2.1 j hj
  ·exact O
 have j8:((xs++[k]).flatMap fun k=>(CQ k))=(xs.flatMap fun k=>(CQ k))++(CQ k):=by simp
 have HX:=Ao hx;have z7:sb≠w.heap.size:=by have:=L.lt;omega
 have R:=Ac w (.cells #[.int .i64 k.n,.int .i64 k.r.a,.int .i64 k.r.b,.int .i64 k.r.c] 223);rcases hS.2.2 with⟨rfl,rfl⟩|⟨r,D,rfl,hr,q4,hD⟩
 ·have q3:=fun w:World=>DX (P:=prog) w 212 223 3 none underlying212;have y7:=@run_makeMap prog;clear hx c0;go_enter func218,ntmps218;go_wp2_with (go_at_call 227;refine hF.mono ?_;rintro e w9 ⟨rfl,x⟩;have v:=(L.alloc (.cells #[.int .i64 k.n,.int .i64 k.r.a,.int .i64 k.r.b,.int .i64 k.r.c] 223)).below x;have J:=(hS.alloc (.cells #[.int .i64 k.n,.int .i64 k.r.a,.int .i64 k.r.b,.int .i64 k.r.c] 223)).below x;have z:Aw w9 w.heap.size (CQ k) 223:=(Aw.new w (CQ k) 223).below x;have B:=R.trans (x.mono R.size);have z5:=B.size;have j5:=z.lt;have q5:=v.lt;have f0:=v.frozen;have y0:w9.cell? ⟨w.heap.size,0,none⟩=some (.int .i64 k.n):=z.cell 0;have y1:w9.cell? ⟨w.heap.size,1,none⟩=some (.int .i64 k.r.a):=z.cell 1;have y2:w9.cell? ⟨w.heap.size,2,none⟩=some (.int .i64 k.r.b):=z.cell 2;have y3:w9.cell? ⟨w.heap.size,3,none⟩=some (.int .i64 k.r.c):=z.cell 3;have g0:w9.cell? ⟨sb,o,none⟩=some (.map none):=(v.cell o).trans I;have g1:w9.cell? ⟨sb,o+1,none⟩=some (.slice ao 0 cap):=(v.cell (o+1)).trans h1;have M:sb≠w9.heap.size:=(by omega));have X:=Nw w9 223 (plainElem prog 3) ⟨sb,o,none⟩;have j2:Aw ((w9.setCell ⟨sb,o,none⟩ (.map (some w9.heap.size))).alloc (.map #[] 0)) sb (cs.set o (.map (some w9.heap.size))) t:=(v.setCell o (.map (some w9.heap.size))).alloc (.map #[] 0);have j4:Aw ((w9.setCell ⟨sb,o,none⟩ (.map (some w9.heap.size))).alloc (.map #[] 0)) w.heap.size (CQ k) 223:=(z.setOther ⟨sb,o,none⟩ _ (FG z7)).alloc (.map #[] 0);have U:=Hp J.1 (k:=w9.heap.size) (Ab _);have j3:=(AJ J.1 ⟨sb,o,none⟩ (.map (some w9.heap.size)) (Av J.1 v ht)).alloc (.map #[] 0);obtain⟨w1,z4,Q,y⟩:=KK (w:=((w9.setCell ⟨sb,o,none⟩ (.map (some w9.heap.size))).alloc (.map #[] 0)).drew) (by exact X) fY underlying212 (by unfold maxLen;omega) C (C2 underlying3 (a:=0) (by decide));have d:=j2.drew.grown y (by simpa using M.symm);have m:=j4.drew.grown y (by simp;omega);have Y:w1.ownsRow base 223 4 (.slice ao 0 cap) 0 []:=L5 (by exact j3) y (.inr U);have d0:w1.cell? ⟨sb,o,none⟩=some (.map (some w9.heap.size)):=by rw[d.cell o,CD (by omega)]
  have d1:w1.cell? ⟨sb,o+1,none⟩=some (.slice ao 0 cap):=by rw[d.cell (o+1),CB (by omega)];exact h1
  have fB:=d.frozen;have j9:=d.lt;have H:=m.lt;have z0:w1.cell? ⟨w.heap.size,0,none⟩=some (.int .i64 k.n):=m.cell 0;have z1:w1.cell? ⟨w.heap.size,1,none⟩=some (.int .i64 k.r.a):=m.cell 1;have z2:w1.cell? ⟨w.heap.size,2,none⟩=some (.int .i64 k.r.b):=m.cell 2;have z3:w1.cell? ⟨w.heap.size,3,none⟩=some (.int .i64 k.r.c):=m.cell 3;go_region;have K:(w1.alloc (.cells #[.int .i64 k.n,.int .i64 k.r.a,.int .i64 k.r.b,.int .i64 k.r.c] 223)).drew.ownsRow base 223 4 (.slice ao 0 cap) 0 []:=(by exact Y.alloc _);have l:∀j u,((CQ k))[j]? =some u->(w1.alloc (.cells #[.int .i64 k.n,.int .i64 k.r.a,.int .i64 k.r.b,.int .i64 k.r.c] 223)).drew.cell? ((⟨w1.heap.size,0,none⟩:Addr).add j)=some u:=(by exact AS w1 (CQ k) 223);have G:∀u∈(CQ k),u.oneCell'=true:=(by intro u hu;simp[CQ,Bh]at hu;rcases hu with rfl|rfl|rfl|rfl<;>rfl);have N:base<=(w1.alloc (.cells #[.int .i64 k.n,.int .i64 k.r.a,.int .i64 k.r.b,.int .i64 k.r.c] 223)).drew.heap.size:=by have:=y.size;simp at this;simp;omega
  go_wp2_with fail
  go_region_law (refine CP _ rfl (.tmp 41) (.tmp 43) 213 rfl base 223 i1 _ 4 32 underlying213 q2 q8 q9 j0 rfl (by decide) (.slice ao 0 cap) 0 [] (by simp[Act.eval]) K ⟨w1.heap.size,0,none⟩ 1 1 (CQ k) (by simp[Act.eval]) (by decide) rfl l G (by unfold maxLen;omega) (by omega) N ?_;intro g Z w2 V f E;have s:=(d.alloc (.cells #[.int .i64 k.n,.int .i64 k.r.a,.int .i64 k.r.b,.int .i64 k.r.c] 223)).drew.grown f (Av Y d ht);have e1:w2.cell? ⟨sb,o+1,none⟩=some (.slice ao 0 cap):=(by rw[s.cell (o+1),CB (by omega)];exact h1);have j1:=s.frozen)
  all_goals
   go_wp2_with fail;go_ret2;have y4:base<=w1.heap.size:=by have:=y.size;simp at this;omega
   refine⟨rfl,.map (some w9.heap.size),.slice (some ⟨g,0,none⟩) 1 Z,s.setCell (o+1) _,⟨?_,q7,.inr ⟨w9.heap.size,_,rfl,by omega,?_,Lg.nil.put k O HX.out⟩⟩,?_⟩
   ·simpa using AJ V ⟨sb,o+1,none⟩ _ (Av V s ht)
   ·have h2:=L6 (w:=(w1.alloc (.cells #[.int .i64 k.n,.int .i64 k.r.a,.int .i64 k.r.b,.int .i64 k.r.c] 223)).drew) (by exact Q.alloc _) f (FG U);simpa using Fa h2 (Bg.setCell (b:=sb) w2 (p:=⟨sb,o+1,none⟩) rfl _) M.symm
   ·have W:=y.size;have h:=f.size;simp at W h;have k1:A3 (fun q=>q=sb\/AN (.map none)=some q\/(Value.slice ao 0 cap).ownBlock=some q) w w1:=(((A3.ab B).setCell (p:=⟨sb,o,none⟩) (.inl (.inl rfl)) _).alloc _).drew.grown y (fun q hq=>.inr (by simp at hq;omega));refine⟨((k1.alloc _).drew.grown f (fun q hq=>.inl (.inr (.inr hq)))).setCell (p:=⟨sb,o+1,none⟩) (.inl (.inl rfl)) _,.inr (fun q hq=>by simp[AN]at hq;omega),?_⟩;rcases E with S|S
    ·exact .inl S
    ·exact .inr (fun q hq=>by simp[Value.ownBlock]at hq;simp at S;omega)
 ·obtain⟨hh,ha⟩:=hD.2 k O;rw[A5 hx]at hh;have q3:=fun w:World=>DX (P:=prog) w 212 223 3 (some r) underlying212;have z9:(Lit.int .i64 (xs.length:Int)).wf=true:=Hg (n:=(xs.length:Int)) ⟨by omega,by omega⟩;clear hx c0;go_enter func218,ntmps218;go_wp2_with (go_at_call 227;refine hF.mono ?_;rintro e w9 ⟨rfl,x⟩;have v:=(L.alloc (.cells #[.int .i64 k.n,.int .i64 k.r.a,.int .i64 k.r.b,.int .i64 k.r.c] 223)).below x;have J:=(hS.alloc (.cells #[.int .i64 k.n,.int .i64 k.r.a,.int .i64 k.r.b,.int .i64 k.r.c] 223)).below x;have z:Aw w9 w.heap.size (CQ k) 223:=(Aw.new w (CQ k) 223).below x;have B:=R.trans (x.mono R.size);have z5:=B.size;have j5:=z.lt;have q5:=v.lt;have f0:=v.frozen;have y0:w9.cell? ⟨w.heap.size,0,none⟩=some (.int .i64 k.n):=z.cell 0;have y1:w9.cell? ⟨w.heap.size,1,none⟩=some (.int .i64 k.r.a):=z.cell 1;have y2:w9.cell? ⟨w.heap.size,2,none⟩=some (.int .i64 k.r.b):=z.cell 2;have y3:w9.cell? ⟨w.heap.size,3,none⟩=some (.int .i64 k.r.c):=z.cell 3;have g0:w9.cell? ⟨sb,o,none⟩=some (.map (some r)):=(v.cell o).trans I;have g1:w9.cell? ⟨sb,o+1,none⟩=some (.slice ao xs.length cap):=(v.cell (o+1)).trans h1);have i:=Fy (q4.alloc (.cells #[.int .i64 k.n,.int .i64 k.r.a,.int .i64 k.r.b,.int .i64 k.r.c] 223)) x;have q6:=E9 i v;have j6:=E9 i z;have U:=Iw i J.1;obtain⟨w1,z4,Q,y⟩:=KK (w:=w9.drew) (by exact i) fY underlying212 (by unfold maxLen;omega) C (C2 underlying3 (a:=(xs.length:Int)) z9);have d:=v.drew.grown y (by simpa using q6.symm);have m:=z.drew.grown y (by simpa using j6.symm);have Y:w1.ownsRow base 223 4 (.slice ao xs.length cap) xs.length (xs.flatMap fun k=>(CQ k)):=L5 (by exact J.1) y (.inr U);have d1:w1.cell? ⟨sb,o+1,none⟩=some (.slice ao xs.length cap):=(d.cell (o+1)).trans h1;have fB:=d.frozen;have j9:=d.lt;have H:=m.lt;have z0:w1.cell? ⟨w.heap.size,0,none⟩=some (.int .i64 k.n):=m.cell 0;have z1:w1.cell? ⟨w.heap.size,1,none⟩=some (.int .i64 k.r.a):=m.cell 1;have z2:w1.cell? ⟨w.heap.size,2,none⟩=some (.int .i64 k.r.b):=m.cell 2;have z3:w1.cell? ⟨w.heap.size,3,none⟩=some (.int .i64 k.r.c):=m.cell 3;go_region;have K:(w1.alloc (.cells #[.int .i64 k.n,.int .i64 k.r.a,.int .i64 k.r.b,.int .i64 k.r.c] 223)).drew.ownsRow base 223 4 (.slice ao xs.length cap) xs.length (xs.flatMap fun k=>(CQ k)):=(by exact Y.alloc _);have l:∀j u,((CQ k))[j]? =some u->(w1.alloc (.cells #[.int .i64 k.n,.int .i64 k.r.a,.int .i64 k.r.b,.int .i64 k.r.c] 223)).drew.cell? ((⟨w1.heap.size,0,none⟩:Addr).add j)=some u:=(by exact AS w1 (CQ k) 223);have G:∀u∈(CQ k),u.oneCell'=true:=(by intro u hu;simp[CQ,Bh]at hu;rcases hu with rfl|rfl|rfl|rfl<;>rfl);have N:base<=(w1.alloc (.cells #[.int .i64 k.n,.int .i64 k.r.a,.int .i64 k.r.b,.int .i64 k.r.c] 223)).drew.heap.size:=by have:=y.size;simp at this;simp;omega
  go_wp2_with fail
  go_region_law (refine CP _ rfl (.tmp 41) (.tmp 43) 213 rfl base 223 i1 _ 4 32 underlying213 q2 q8 q9 j0 rfl (by decide) (.slice ao xs.length cap) xs.length (xs.flatMap fun k=>(CQ k)) (by simp[Act.eval]) K ⟨w1.heap.size,0,none⟩ 1 1 (CQ k) (by simp[Act.eval]) (by decide) rfl l G (by unfold maxLen;omega) (by omega) N ?_;intro g Z w2 V f E;have s:=(d.alloc (.cells #[.int .i64 k.n,.int .i64 k.r.a,.int .i64 k.r.b,.int .i64 k.r.c] 223)).drew.grown f (Av Y d ht);have e1:w2.cell? ⟨sb,o+1,none⟩=some (.slice ao xs.length cap):=((s.cell (o+1)).trans h1);have j1:=s.frozen)
  all_goals
   go_wp2_with fail;go_ret2;have q0:=y.size;have q1:=f.size;simp at q0 q1;have z8:cs.set o (.map (some r))=cs:=by obtain⟨y6,j7⟩:=List.getElem?_eq_some_iff.1 I;rw[<-j7,Dh]
   refine⟨rfl,.map (some r),.slice (some ⟨g,0,none⟩) (xs.length+1) Z,by rw[z8];exact s.setCell (o+1) _,⟨?_,q7,.inr ⟨r,_,rfl,hr,?_,hD.put k O HX.out⟩⟩,?_⟩
   ·rw[j8];simpa using AJ V ⟨sb,o+1,none⟩ _ (Av V s ht)
   ·have h2:=L6 (w:=(w1.alloc (.cells #[.int .i64 k.n,.int .i64 k.r.a,.int .i64 k.r.b,.int .i64 k.r.c] 223)).drew) (by exact Q.alloc _) f (FG U);simpa using Fa h2 (Bg.setCell (b:=sb) w2 (p:=⟨sb,o+1,none⟩) rfl _) q6.symm
   ·have k1:A3 (fun q=>q=sb\/AN (.map (some r))=some q\/(Value.slice ao xs.length cap).ownBlock=some q) w w1:=(A3.ab B).drew.grown y (fun q hq=>.inl (.inr (.inl hq)));refine⟨((k1.alloc _).drew.grown f (fun q hq=>.inl (.inr (.inr hq)))).setCell (p:=⟨sb,o+1,none⟩) (.inl (.inl rfl)) _,.inl rfl,?_⟩;rcases E with S|S
    ·exact .inl S
    ·exact .inr (fun q hq=>by simp[Value.ownBlock]at hq;simp at S;omega)
theorem iM(w:World)(base sb o:Nat)(cs:List Value)(t:TypeId)(mv lv:Value)(xs:List A4)(k:A4)(y:Aw w sb cs t)(z:cs[o]? =some mv)(h1:cs[o+1]? =some lv)(hS:C1 w base mv lv xs)(u:k.Wf)(hn:xs.length<=1000000000000)(ht:t≠223)(v:base<=w.heap.size):
 Calls prog 218 #[.pointer (some ⟨sb,o,none⟩),(.agg #[.int .i64 k.n,.int .i64 k.r.a,.int .i64 k.r.b,.int .i64 k.r.c])] w fun e w'=>e=.returned (.tuple #[.int .i64 (Ci (CO xs k) k:Nat),.bool (decide (k∉xs))])/\
  ∃q lv',Aw w' sb ((cs.set o q).set (o+1) lv') t/\C1 w' base q lv' (CO xs k)/\Cs w w' sb mv lv q lv':=by
 by_cases hx:k∈xs
 ·refine(iF w base sb o mv lv xs k ((y.cell o).trans z) hS u hx).mono ?_;rintro e w' ⟨rfl,j⟩;refine⟨by simp[CO,hx],mv,lv,?_,?_,Cs.still j sb mv lv⟩
  ·rw[Nr cs o mv lv z h1];exact y.below j
  ·rw[CO,Ai hx];exact hS.below j
 ·refine(iJ w base sb o cs t mv lv xs k y z h1 hS u hx hn ht v).mono ?_;rintro e w' ⟨rfl,q,lv',a,b,c⟩;refine⟨?_,q,lv',a,?_,c⟩
  ·rw[CO,Af hx,Gd xs k hx];simp[hx]
  ·rw[CO,Af hx];exact b
end
section
open Go.RowKit Go.WideMaps Go.Maps
variable [DecidableEq R3] [DecidableEq A4]
abbrev DK:=Nat×Nat
abbrev Bu:=Nat->Option DK
def D6(own:Bu)(o:DK)(v:Value):Prop:=∀q,(AN v=some q\/v.ownBlock=some q)->own q=some o
structure He(own:Bu)(base:Nat)(w:World):Prop where
 lt:∀q o,own q=some o->base<=q/\q<w.heap.size
 base:base<=w.heap.size
 se:∀q s,own q=some (3,s)->s<w.heap.size
def Ch(sb:Nat)(o:DK):Prop:=o.1=0\/o.1=2\/o=(3,sb)
def Sf(o:DK):Prop:=o.1=0\/o.1=2
def nU(own:Bu)(X:DK->Prop)(q:Nat):Prop:=∃o,own q=some o/\X o
structure EM(n:Nat)(own own':Bu):Prop where
 br:∀q o,own q=some o->own' q=some o
 new:∀q o,own' q=some o->own q=some o\/n<=q
theorem EM.refl(n:Nat)(own:Bu):EM n own own:=⟨fun _ _ h=>h,fun _ _ h=>.inl h⟩
theorem EM.trans{n m:Nat}{a b c:Bu}(h:EM n a b)(g:EM m b c)(j:n<=m):EM n a c:=
 ⟨fun q o e=>g.br q o (h.br q o e),fun q o e=>by
   rcases g.new q o e with e|e
   ·exact h.new q o e
   ·exact .inr (Ay j e)⟩
structure BX(X:DK->Prop)(own:Bu)(w:World)(own':Bu)(w':World):Prop where
 only:A3 (nU own X) w w'
 ext:EM w.heap.size own own'
theorem BX.refl(X:DK->Prop)(own:Bu)(w:World):BX X own w own w:=⟨A3.ab (Ag _ _),.refl _ _⟩
theorem BX.below{X:DK->Prop}{own:Bu}{w w':World}(h:Below w.heap.size w w'):BX X own w own w':=⟨A3.ab h,.refl _ _⟩
theorem BX.trans{X:DK->Prop}{a b c:Bu}{w w1 w2:World}(h:BX X a w b w1)(g:BX X b w1 c w2):BX X a w c w2:=
 ⟨h.only.trans g.only (fun k hk ⟨o,q,hc⟩=>by
   rcases h.ext.new k o q with e|e
   ·exact⟨o,e,hc⟩
   ·omega),h.ext.trans g.ext h.only.size⟩
theorem BX.mono{X Y:DK->Prop}{a b:Bu}{w w1:World}(h:BX X a w b w1)(q:∀o,X o->Y o):BX Y a w b w1:=⟨h.only.mono (fun _ ⟨o,e,c⟩=>⟨o,e,q o c⟩),h.ext⟩
theorem Sf.ch(sb:Nat)(o:DK)(h:Sf o):Ch sb o:=by
 rcases h with h|h
 ·exact .inl h
 ·exact .inr (.inl h)
theorem BX.bm{X:DK->Prop}{a b:Bu}{w w1 w2:World}(h:BX X a w b w1)(g:Below w1.heap.size w1 w2):BX X a w b w2:=h.trans (BX.below g)
theorem D6.ext{n:Nat}{own own':Bu}{o:DK}{v:Value}(h:D6 own o v)(j:EM n own own'):D6 own' o v:=fun q hq=>j.br q o (h q hq)
theorem D6.bw(own:Bu)(o:DK):D6 own o (.map none):=by intro q hq;simp[AN,Value.ownBlock]at hq
theorem D6.bh(own:Bu)(o:DK):D6 own o (.slice none 0 0):=by intro q hq;simp[AN,Value.ownBlock]at hq
theorem He.below{own:Bu}{base:Nat}{w w':World}(h:He own base w)(hs:w.heap.size<=w'.heap.size):He own base w':=⟨fun q o e=>⟨(h.lt q o e).1,AH (h.lt q o e).2 hs⟩,Ay h.base hs,fun q s e=>AH (h.se q s e) hs⟩
def Dt(own:Bu)(o:DK)(mv lv:Value):Bu:=fun q=>if AN mv=some q\/lv.ownBlock=some q then some o else own q
theorem U9{own:Bu}{o:DK}{n:Nat}{mv lv:Value}(z:∀q o,own q=some o->q<n)(h:∀q,(AN mv=some q\/lv.ownBlock=some q)->own q=some o\/n<=q):EM n own (Dt own o mv lv):=by
 refine⟨fun q j e=>?_,fun q j e=>?_⟩
 ·unfold Dt
  split
  ·rename_i hq;rcases h q hq with h|h
   ·rw[<-h,e]
   ·have:=z q j e;omega
  ·exact e
 ·unfold Dt at e
  split at e
  ·rename_i hq;rcases h q hq with h|h
   ·left
    rw[<-e,h]
   ·exact .inr h
  ·exact .inl e
theorem N4{own:Bu}{o:DK}{mv lv:Value}(q:Nat)(h:AN mv=some q\/lv.ownBlock=some q):Dt own o mv lv q=some o:=by unfold Dt;rw[Ai h]
def Cj(own:Bu)(o:DK)(b:Nat):Bu:=fun q=>if q=b then some o else own q
theorem N3(own:Bu)(o:DK)(b:Nat):Cj own o b b=some o:=by simp[Cj]
structure TD where
 m0:Value
 m1:Value
 ru:Value
 names:List B8
 ae:List B8
 rules:List Dq
structure TV where
 nm:Value
 nl:Value
 cm:Value
 cl:Value
 qm:Value
 ql:Value
 li:Value
structure JN(w:World)(own:Bu)(base:Nat)(rules:List Dq)(i:Nat)(t:A1)(ru mv lv:Value):Prop where
 al:Aw w t.b [ru,mv,lv,.bool t.fin] 266
 rules:w.ownsRow base 226 22 ru (D5 rules t.q).length ((D5 rules t.q).flatMap AG)
 rows:Dv w base mv lv t.rows
 ob:own t.b=some (2,i)
 dd:D6 own (4,i) ru
 et:D6 own (2,i) mv
 ep:D6 own (2,i) lv
def Sq(t:A1):Value:=.pointer (some ⟨t.b,0,none⟩)
structure Fi(w:World)(own:Bu)(base tb:Nat)(V:TV)(D:TD)(qs:List A4)(S:List A1)(sz:Nat):Prop where
 ok:He own base w
 al:Aw w tb [D.m0,D.m1,V.nm,V.nl,V.cm,V.cl,D.ru,V.qm,V.ql,V.li,.int .i64 (sz:Nat)] 218
 names:Cu w base V.nm V.nl D.names
 ae:Cu w base V.cm V.cl D.ae
 rules:w.ownsRow base 226 22 D.ru D.rules.length (D.rules.flatMap AG)
 qs:C1 w base V.qm V.ql qs
 list:w.ownsRow base 258 1 V.li S.length (S.map Sq)
 ot:own tb=some (0,0)
 ef:D6 own (0,0) V.qm
 ee:D6 own (0,0) V.ql
 dy:D6 own (0,0) V.li
 dv:D6 own (1,0) V.nm
 du:D6 own (1,0) V.nl
 dt:D6 own (1,1) V.cm
 dr:D6 own (1,1) V.cl
 dd:D6 own (1,2) D.ru
 cz:∀(i:Nat) (t:A1),S[i]? =some t->∃ru mv lv,JN w own base D.rules i t ru mv lv
structure Lb(w:World)(own:Bu)(base tb sb:Nat)(nd:List Nat)(mv lv:Value):Prop where
 al:Aw w sb [.pointer (some ⟨tb,0,none⟩),mv,lv] 292
 set:DE w base mv lv nd
 ob:own sb=some (3,sb)
 et:D6 own (3,sb) mv
 ep:D6 own (3,sb) lv
section
variable {w w':World} {own own':Bu} {base tb:Nat} {P:Nat->Prop}
theorem JN.only{rules:List Dq}{i n:Nat}{t:A1}{ru mv lv:Value}(h:JN w own base rules i t ru mv lv)(y:A3 P w w')(z:EM n own own')(j:∀q k,k=2\/k=4->own q=some (k,i)->¬P q):JN w' own' base rules i t ru mv lv:=
 ⟨h.al.only y (j _ 2 (.inl rfl) h.ob),BI h.rules y (fun q hq=>j q 4 (.inr rfl) (h.dd q (.inr hq))),h.rows.only y (fun q hq=>j q 2 (.inl rfl) (h.ep q (.inr hq))) (fun q hq=>j q 2 (.inl rfl) (h.et q (.inl hq))),z.br _ _ h.ob,h.dd.ext z,h.et.ext z,h.ep.ext z⟩
theorem Lb.only{sb n:Nat}{nd:List Nat}{mv lv:Value}(h:Lb w own base tb sb nd mv lv)(y:A3 P w w')(z:EM n own own')(j:∀q,own q=some (3,sb)->¬P q):Lb w' own' base tb sb nd mv lv:=
 ⟨h.al.only y (j _ h.ob),h.set.only y (fun q hq=>j q (h.ep q (.inr hq))) (fun q hq=>j q (h.et q (.inl hq))),z.br _ _ h.ob,h.et.ext z,h.ep.ext z⟩
theorem Fi.only{V:TV}{D:TD}{qs:List A4}{S:List A1}{sz n:Nat}(h:Fi w own base tb V D qs S sz)(y:A3 P w w')(j:EM n own own')(v:He own' base w')(u:∀q o,own q=some o->o.1≠3->o.1≠5->¬P q):Fi w' own' base tb V D qs S sz:=by have z:=fun q (e:own q=some (0,0))=>u q _ e (by simp) (by simp);have f:=fun k q (e:own q=some (1,k))=>u q _ e (by simp) (by simp);refine⟨v,h.al.only y (z _ h.ot),h.names.only y (fun q hq=>f 0 q (h.du q (.inr hq))) (fun q hq=>f 0 q (h.dv q (.inl hq))),h.ae.only y (fun q hq=>f 1 q (h.dr q (.inr hq))) (fun q hq=>f 1 q (h.dt q (.inl hq))),BI h.rules y (fun q hq=>f 2 q (h.dd q (.inr hq))),h.qs.only y (fun q hq=>z q (h.ee q (.inr hq))) (fun q hq=>z q (h.ef q (.inl hq))),BI h.list y (fun q hq=>z q (h.dy q (.inr hq))),j.br _ _ h.ot,h.ef.ext j,h.ee.ext j,h.dy.ext j,h.dv.ext j,h.du.ext j,h.dt.ext j,h.dr.ext j,h.dd.ext j,?_⟩;intro i t ht;obtain⟨ru,mv,lv,g⟩:=h.cz i t ht;exact⟨ru,mv,lv,g.only y j (fun q k v e=>u q _ e (by rcases v with rfl|rfl<;>simp) (by rcases v with rfl|rfl<;>simp))⟩
theorem Fi.below{V:TV}{D:TD}{qs:List A4}{S:List A1}{sz:Nat}(h:Fi w own base tb V D qs S sz)(hb:Below w.heap.size w w'):Fi w' own base tb V D qs S sz:=
 h.only (P:=fun _=>False) (A3.ab hb) (.refl 0 own) (h.ok.below hb.size) (fun _ _ _ _ _ e=>e)
theorem Lb.below{sb:Nat}{nd:List Nat}{mv lv:Value}(h:Lb w own base tb sb nd mv lv)(hb:Below w.heap.size w w'):Lb w' own base tb sb nd mv lv:=
 h.only (P:=fun _=>False) (A3.ab hb) (.refl 0 own) (fun _ _ e=>e)
theorem JN.below{rules:List Dq}{i:Nat}{t:A1}{ru mv lv:Value}(h:JN w own base rules i t ru mv lv)(hb:Below w.heap.size w w'):JN w' own base rules i t ru mv lv:=
 h.only (P:=fun _=>False) (A3.ab hb) (.refl 0 own) (fun _ _ _ _ e=>e)
end
theorem Aw.aw{X:DK->Prop}{own own':Bu}{w w':World}{b:Nat}{cs:List Value}{t:TypeId}(h:Aw w b cs t)(q:BX X own w own' w')(hn:own b=none):Aw w' b cs t:=
 h.only q.only (fun⟨o,e,_⟩=>by rw[hn]at e;cases e)
theorem BX.none{X:DK->Prop}{own own':Bu}{w w':World}(j:BX X own w own' w'){b:Nat}(hb:b<w.heap.size)(hn:own b=none):own' b=none:=by
 cases e:own' b with
 |none=>rfl
 |some o=>
  rcases j.ext.new b o e with q|q
  ·rw[hn]at q;cases q
  ·omega
theorem Lb.aw{X:DK->Prop}{w w':World}{own own':Bu}{base tb sb:Nat}{nd:List Nat}{mv lv:Value}(h:Lb w own base tb sb nd mv lv)(y:BX X own w own' w')(z:¬X (3,sb)):Lb w' own' base tb sb nd mv lv:=
 h.only y.only y.ext (fun q e hS=>by
  obtain⟨o,j,hc⟩:=hS;rw[e]at j
  injection j with j
  subst j
  exact z hc)
theorem Wy(sb:Nat):¬Sf (3,sb):=by rintro(h|h)<;>simp at h
end
section
open Go.RowKit Go.WideMaps Go.Maps
variable [DecidableEq R3] [DecidableEq A4]
theorem Hz{w:World}{base:Nat}{e:TypeId}{size n:Nat}{lv:Value}{xs:List Value}(h:w.ownsRow base e size lv n xs):AN lv=none:=by obtain⟨ao,cap,rfl⟩:=Au h;rfl
theorem Dv.shape{w:World}{base:Nat}{mv lv:Value}{xs:List R3}(h:Dv w base mv lv xs):mv.ownBlock=none/\AN lv=none:=by
 refine⟨?_,Hz h.1⟩;rcases h.2.2 with⟨rfl,_⟩|⟨r,D,rfl,_⟩<;>rfl
theorem C1.shape{w:World}{base:Nat}{mv lv:Value}{xs:List A4}(h:C1 w base mv lv xs):mv.ownBlock=none/\AN lv=none:=by
 refine⟨?_,Hz h.1⟩;rcases h.2.2 with⟨rfl,_⟩|⟨r,D,rfl,_⟩<;>rfl
theorem DE.shape{w:World}{base:Nat}{mv lv:Value}{xs:List Nat}(h:DE w base mv lv xs):mv.ownBlock=none/\AN lv=none:=by
 refine⟨?_,Hz h.1⟩;rcases h.2.2 with⟨rfl,_⟩|⟨r,D,rfl,_⟩<;>rfl
theorem Cu.shape{w:World}{base:Nat}{mv lv:Value}{xs:List B8}(h:Cu w base mv lv xs):mv.ownBlock=none/\AN lv=none:=by
 refine⟨?_,Hz h.1⟩;rcases h.2.2 with⟨rfl,_⟩|⟨r,D,rfl,_⟩<;>rfl
structure Im(own:Bu)(base:Nat)(w w':World)(ob o:DK)(mv' lv':Value):Prop where
 ext:EM w.heap.size own (Dt own o mv' lv')
 ok:He (Dt own o mv' lv') base w'
 om:D6 (Dt own o mv' lv') o mv'
 ol:D6 (Dt own o mv' lv') o lv'
 only:A3 (fun q=>own q=some ob\/own q=some o) w w'
theorem Gx{own:Bu}{base:Nat}{w w':World}{b:Nat}{mv lv j lv':Value}{ob o:DK}(y:He own base w)(z:Cs w w' b mv lv j lv')(hb:own b=some ob)(v:∀s,o=(3,s)->s<w.heap.size)(d:D6 own o mv)(g:D6 own o lv)(hs:j.ownBlock=none/\AN lv'=none)(k:(∀q,lv'.ownBlock=some q->base<=q/\q<w'.heap.size)/\∀q,AN j=some q->base<=q/\q<w'.heap.size):Im own base w w' ob o j lv':=by
 have u:∀q,(AN j=some q\/lv'.ownBlock=some q)->own q=some o\/w.heap.size<=q:=by
  rintro q (h|h)
  ·rcases z.map with e|e
   ·exact .inl (d q (.inl (e▸h)))
   ·exact .inr (e q h)
  ·rcases z.row with e|e
   ·exact .inl (g q (.inr (e▸h)))
   ·exact .inr (e q h)
 refine⟨U9 (fun q o e=>(y.lt q o e).2) u,⟨?_,Ay y.base z.only.size,?_⟩,?_,?_,z.only.mono ?_⟩
 ·intro q t e;unfold Dt at e
  split at e
  ·rename_i h;rcases h with h|h
   ·exact k.2 q h
   ·exact k.1 q h
  ·exact⟨(y.lt q t e).1,AH (y.lt q t e).2 z.only.size⟩
 ·intro q s e;unfold Dt at e
  split at e
  ·injection e with e
   exact AH (v s e) z.only.size
  ·exact AH (y.se q s e) z.only.size
 ·rintro q (h|h)
  ·exact N4 q (.inl h)
  ·rw[hs.1]at h;cases h
 ·rintro q (h|h)
  ·rw[hs.2]at h;cases h
  ·exact N4 q (.inr h)
 ·rintro q (rfl|h|h)
  ·exact .inl hb
  ·exact .inr (d q (.inl h))
  ·exact .inr (g q (.inr h))
theorem Im.same{own:Bu}{base:Nat}{w w':World}{o:DK}{j lv':Value}(h:Im own base w w' o o j lv'):A3 (fun q=>own q=some o) w w':=h.only.mono (fun _ e=>e.elim id id)
section
variable {w w':World} {own own':Bu} {base tb n:Nat} {V:TV} {D:TD} {qs:List A4} {S:List A1} {sz:Nat}
theorem Fi.gd(h:Fi w own base tb V D qs S sz){g:Nat}{t u:A1}(ht:S[g]? =some t)(v:A3 (fun q=>own q=some (2,g)) w w')(y:EM n own own')(p:He own' base w'){ru mv lv:Value}(s:JN w' own' base D.rules g u ru mv lv)(hb:u.b=t.b):Fi w' own' base tb V D qs (S.set g u) sz:=by
 have z:=fun q (e:own q=some (0,0)) (d:own q=some (2,g))=>(by rw[e]at d;simp at d:False);have f:=fun k q (e:own q=some (1,k)) (d:own q=some (2,g))=>(by rw[e]at d;simp at d:False);have c:g<S.length:=(List.getElem?_eq_some_iff.1 ht).1
 have o:(S.set g u).map Sq=S.map Sq:=by
  rw[YY];apply E5;intro j;rw[DM]
  split
  ·rename_i e;subst e;rw[Ba,ht,Ai (by simpa using c)];simp[Sq,hb]
  ·rfl
 refine⟨p,h.al.only v (z _ h.ot),h.names.only v (fun q hq=>f 0 q (h.du q (.inr hq))) (fun q hq=>f 0 q (h.dv q (.inl hq))),h.ae.only v (fun q hq=>f 1 q (h.dr q (.inr hq))) (fun q hq=>f 1 q (h.dt q (.inl hq))),BI h.rules v (fun q hq=>f 2 q (h.dd q (.inr hq))),h.qs.only v (fun q hq=>z q (h.ee q (.inr hq))) (fun q hq=>z q (h.ef q (.inl hq))),?_,y.br _ _ h.ot,h.ef.ext y,h.ee.ext y,h.dy.ext y,h.dv.ext y,h.du.ext y,h.dt.ext y,h.dr.ext y,h.dd.ext y,?_⟩
 ·rw[o,Pj];exact BI h.list v (fun q hq=>z q (h.dy q (.inr hq)))
 ·intro i x hx;by_cases e:g=i
  ·subst e;rw[CD c]at hx
   injection hx with hx
   subst hx;exact⟨ru,mv,lv,s⟩
  ·rw[CB e]at hx;obtain⟨ru,mv,lv,a⟩:=h.cz i x hx;exact⟨ru,mv,lv,a.only v y (fun q k p m r=>by rw[m]at r;rcases p with rfl|rfl<;>simp at r;exact e r.symm)⟩
theorem Fi.ew(h:Fi w own base tb V D qs S sz){g:Nat}{t:A1}(ht:S[g]? =some t){ru mv lv j lv':Value}(k:JN w own base D.rules g t ru mv lv){z:List R3}(d:Aw w' t.b [ru,j,lv',.bool t.fin] 266)(hS:Dv w' base j lv' z)(u:Cs w w' t.b mv lv j lv')(v:∀q,ru.ownBlock=some q->q≠t.b/\AN mv≠some q/\lv.ownBlock≠some q):
 Fi w' (Dt own (2,g) j lv') base tb V D qs (S.set g ⟨t.q,t.b,z,t.fin⟩) sz/\Im own base w w' (2,g) (2,g) j lv':=by
 have y:=Gx h.ok u k.ob (fun s e=>by simp at e) k.et k.ep hS.shape hS.lt;refine⟨h.gd ht y.same y.ext y.ok (ru:=ru) (mv:=j) (lv:=lv') ⟨d,?_,hS,y.ext.br _ _ k.ob,k.dd.ext y.ext,y.om,y.ol⟩ rfl,y⟩;refine BI k.rules u.only (fun q hq=>?_);obtain⟨a,b,c⟩:=v q hq;rintro(e|e|e)
 ·exact a e
 ·exact b e
 ·exact c e
theorem Fi.size(h:Fi w own base tb V D qs S sz)(k:Nat):Fi (w.setCell ⟨tb,10,none⟩ (.int .i64 (k:Nat))) own base tb V D qs S k/\A3 (fun q=>own q=some (0,0)) w (w.setCell ⟨tb,10,none⟩ (.int .i64 (k:Nat))):=by
 have j:A3 (fun q=>q=tb) w (w.setCell ⟨tb,10,none⟩ (.int .i64 (k:Nat))):=(A3.ab (S:=fun q=>q=tb) (Ag _ _)).setCell (p:=⟨tb,10,none⟩) (.inl rfl) _;have r:=fun {e:TypeId} {size n:Nat} {v:Value} {xs:List Value} (hx:w.ownsRow base e size v n xs) (ht:218≠e)=>BI hx j (fun q hq e=>Av hx h.al ht (e▸hq));have m:=fun {k:TypeId} {R:Value->Option (DataW Unit×List MemPlace)} {r n:Nat} {D:DataW Unit} (hx:w.ownsMap prog k R r n D)=>E9 hx h.al;have hb:=h.al.setCell 10 (.int .i64 (k:Nat))
 have z:∀{mv lv:Value} {xs:List B8},Cu w base mv lv xs->Cu (w.setCell ⟨tb,10,none⟩ (.int .i64 (k:Nat))) base mv lv xs:=by
  intro mv lv xs hx;refine hx.only j (fun q hq e=>Av hx.1 h.al (by decide) (e▸hq)) (fun q hq e=>?_);rcases hx.2.2 with⟨rfl,_⟩|⟨r,D,rfl,_,u,_⟩
  ·simp[AN]at hq
  ·simp only[AN,Al]at hq;exact m u (by omega)
 have y:∀{mv lv:Value} {xs:List A4},C1 w base mv lv xs->C1 (w.setCell ⟨tb,10,none⟩ (.int .i64 (k:Nat))) base mv lv xs:=by
  intro mv lv xs hx;refine hx.only j (fun q hq e=>Av hx.1 h.al (by decide) (e▸hq)) (fun q hq e=>?_);rcases hx.2.2 with⟨rfl,_⟩|⟨r,D,rfl,_,u,_⟩
  ·simp[AN]at hq
  ·simp only[AN,Al]at hq;exact m u (by omega)
 have hs:(w.setCell ⟨tb,10,none⟩ (.int .i64 (k:Nat))).heap.size=w.heap.size:=by simp[World.setCell]
 refine⟨⟨h.ok.below (by omega),hb,z h.names,z h.ae,r h.rules (by decide),y h.qs,r h.list (by decide),h.ot,h.ef,h.ee,h.dy,h.dv,h.du,h.dt,h.dr,h.dd,?_⟩,j.mono (fun q e=>e▸h.ot)⟩;intro i t ht;obtain⟨ru,mv,lv,d⟩:=h.cz i t ht;exact⟨ru,mv,lv,d.only j (.refl 0 own) (fun q k c g b=>by rw[b,h.ot]at g;rcases c with rfl|rfl<;>simp at g)⟩
theorem Fi.ft(h:Fi w own base tb V D qs S sz){z ql':Value}{y:List A4}(p:Aw w' tb [D.m0,D.m1,V.nm,V.nl,V.cm,V.cl,D.ru,z,ql',V.li,.int .i64 (sz:Nat)] 218)(hS:C1 w' base z ql' y)(d:Cs w w' tb V.qm V.ql z ql')(v:∀q,V.li.ownBlock=some q->AN V.qm≠some q/\V.ql.ownBlock≠some q):
 Fi w' (Dt own (0,0) z ql') base tb ⟨V.nm,V.nl,V.cm,V.cl,z,ql',V.li⟩ D y S sz/\Im own base w w' (0,0) (0,0) z ql':=by
 have j:=Gx h.ok d h.ot (fun s e=>by simp at e) h.ef h.ee hS.shape hS.lt;have f:=fun k q (e:own q=some (1,k)) (u:own q=some (0,0))=>(by rw[e]at u;simp at u:False);refine⟨⟨j.ok,p,h.names.only j.same (fun q hq=>f 0 q (h.du q (.inr hq))) (fun q hq=>f 0 q (h.dv q (.inl hq))),h.ae.only j.same (fun q hq=>f 1 q (h.dr q (.inr hq))) (fun q hq=>f 1 q (h.dt q (.inl hq))),BI h.rules j.same (fun q hq=>f 2 q (h.dd q (.inr hq))),hS,?_,j.ext.br _ _ h.ot,j.om,j.ol,h.dy.ext j.ext,h.dv.ext j.ext,h.du.ext j.ext,h.dt.ext j.ext,h.dr.ext j.ext,h.dd.ext j.ext,?_⟩,j⟩
 ·refine BI h.list d.only (fun q hq=>?_);obtain⟨b,c⟩:=v q hq;rintro(e|e|e)
  ·exact Av h.list h.al (by decide) (e▸hq)
  ·exact b e
  ·exact c e
 ·intro i t ht;obtain⟨ru,mv,lv,m⟩:=h.cz i t ht;exact⟨ru,mv,lv,m.only j.same j.ext (fun q k n r g=>by rw[r]at g;rcases n with rfl|rfl<;>simp at g)⟩
theorem Fi.push(h:Fi w own base tb V D qs S sz){z:Value}{u:A1}(x:Aw w' tb [D.m0,D.m1,V.nm,V.nl,V.cm,V.cl,D.ru,V.qm,V.ql,z,.int .i64 (sz:Nat)] 218)(s:w'.ownsRow base 258 1 z (S.length+1) ((S++[u]).map Sq))(y:A3 (fun q=>own q=some (0,0)) w w')(r:C1 w' base V.qm V.ql qs)(j:EM n own own')(b:He own' base w')(d:D6 own' (0,0) z){ru mv lv:Value}(v:JN w' own' base D.rules S.length u ru mv lv):
 Fi w' own' base tb ⟨V.nm,V.nl,V.cm,V.cl,V.qm,V.ql,z⟩ D qs (S++[u]) sz:=by
 have f:=fun k q (e:own q=some (1,k)) (p:own q=some (0,0))=>(by rw[e]at p;simp at p:False);refine⟨b,x,h.names.only y (fun q hq=>f 0 q (h.du q (.inr hq))) (fun q hq=>f 0 q (h.dv q (.inl hq))),h.ae.only y (fun q hq=>f 1 q (h.dr q (.inr hq))) (fun q hq=>f 1 q (h.dt q (.inl hq))),BI h.rules y (fun q hq=>f 2 q (h.dd q (.inr hq))),r,by simpa using s,j.br _ _ h.ot,h.ef.ext j,h.ee.ext j,d,h.dv.ext j,h.du.ext j,h.dt.ext j,h.dr.ext j,h.dd.ext j,?_⟩;intro i t ht;by_cases a:i<S.length
 ·rw[AU a]at ht;obtain⟨ru,mv,lv,v⟩:=h.cz i t ht;exact⟨ru,mv,lv,v.only y j (fun q k b m c=>by rw[m]at c;rcases b with rfl|rfl<;>simp at c)⟩
 ·have g:i=S.length:=by have:=(List.getElem?_eq_some_iff.1 ht).1;simp at this;omega
  subst g;rw[A0 (Ab _)]at ht;simp at ht;subst ht;exact⟨ru,mv,lv,v⟩
def EZ(own:Bu)(k j:Nat)(v li:Value):Bu:=fun q=>if q=j then some (2,k) else if v.ownBlock=some q then some (4,k) else if li.ownBlock=some q then some (0,0) else own q
structure iP(own:Bu)(base:Nat)(w w':World)(k nb:Nat)(v li:Value):Prop where
 ext:EM w.heap.size own (EZ own k nb v li)
 ok:He (EZ own k nb v li) base w'
 ob:EZ own k nb v li nb=some (2,k)
 ov:D6 (EZ own k nb v li) (4,k) v
 ol:D6 (EZ own k nb v li) (0,0) li
theorem Zy{own:Bu}{base:Nat}{w w':World}{k j:Nat}{v li:Value}(y:He own base w)(hs:w.heap.size<=w'.heap.size)(q1:w.heap.size<=j/\j<w'.heap.size)(d:∀q,v.ownBlock=some q->w.heap.size<=q/\q<w'.heap.size)(t:AN v=none)(r:v.ownBlock≠some j)(p:∀q,li.ownBlock=some q->base<=q/\q<w'.heap.size)(u:AN li=none)(z:∀q,li.ownBlock=some q->own q=some (0,0)\/w.heap.size<=q)(g:∀q,li.ownBlock=some q->q≠j/\v.ownBlock≠some q):iP own base w w' k j v li:=by
 have hb:=y.base;refine⟨⟨?_,?_⟩,⟨?_,Ay hb hs,?_⟩,?_,?_,?_⟩
 ·intro q o e;have q0:=(y.lt q o e).2;unfold EZ;rw[Af (by omega),Af (fun h=>by have:=(d q h).1;omega)]
  split
  ·rename_i h;rcases z q h with h1|h1
   ·rw[<-h1,e]
   ·omega
  ·exact e
 ·intro q o e;unfold EZ at e
  split at e
  ·exact .inr (by omega)
  ·split at e
   ·rename_i h;exact .inr (d q h).1
   ·split at e
    ·rename_i h;rcases z q h with h1|h1
     ·exact .inl (by rw[h1,e])
     ·exact .inr h1
    ·exact .inl e
 ·intro q o e;unfold EZ at e
  split at e
  ·omega
  ·split at e
   ·rename_i h;have:=d q h;omega
   ·split at e
    ·rename_i h;exact p q h
    ·have:=y.lt q o e;omega
 ·intro q s e;unfold EZ at e
  split at e
  ·simp at e
  ·split at e
   ·simp at e
   ·split at e
    ·simp at e
    ·have:=y.se q s e;omega
 ·unfold EZ;rw[Ai rfl]
 ·rintro q (h|h)
  ·rw[t]at h;cases h
  ·unfold EZ;rw[Af (fun(e:q=j)=>r (e▸h)),Ai h]
 ·rintro q (h|h)
  ·rw[u]at h;cases h
  ·unfold EZ;obtain⟨a,b⟩:=g q h;rw[Af a,Af b,Ai h]
theorem Lb.add{sb:Nat}{nd nd':List Nat}{mv lv q lv':Value}(h:Lb w own base tb sb nd mv lv)(z:He own base w)(y:Aw w' sb [.pointer (some ⟨tb,0,none⟩),q,lv'] 292)(hS:DE w' base q lv' nd')(k:Cs w w' sb mv lv q lv'):
 Lb w' (Dt own (3,sb) q lv') base tb sb nd' q lv'/\Im own base w w' (3,sb) (3,sb) q lv':=by
 have j:=Gx z k h.ob (fun s e=>by injection e with _ e;subst e;exact z.se sb _ h.ob) h.et h.ep hS.shape hS.lt;exact⟨⟨y,hS,j.ext.br _ _ h.ob,j.om,j.ol⟩,j⟩
theorem Fi.fw(h:Fi w own base tb V D qs S sz){sb:Nat}{q lv':Value}(z:Im own base w w' (3,sb) (3,sb) q lv'):Fi w' (Dt own (3,sb) q lv') base tb V D qs S sz:=
 h.only z.same z.ext z.ok (fun _ o e hn _ j=>by rw[e]at j;injection j with j;subst j;exact hn rfl)
end
theorem BX.add{X:DK->Prop}{own:Bu}{base:Nat}{w w':World}{ob o:DK}{q lv':Value}(j:Im own base w w' ob o q lv')(hb:X ob)(hc:X o):BX X own w (Dt own o q lv') w':=
 ⟨j.only.mono (fun _ e=>by rcases e with e|e;exact⟨ob,e,hb⟩;exact⟨o,e,hc⟩),j.ext⟩
theorem BX.one{X:DK->Prop}{own:Bu}{w w':World}{o:DK}(h:A3 (fun q=>own q=some o) w w')(hc:X o):BX X own w own w':=
 ⟨h.mono (fun _ e=>⟨o,e,hc⟩),.refl _ _⟩
theorem JN.apart{w:World}{own:Bu}{base i:Nat}{rules:List Dq}{t:A1}{ru mv lv:Value}(h:JN w own base rules i t ru mv lv):∀q,ru.ownBlock=some q->q≠t.b/\AN mv≠some q/\lv.ownBlock≠some q:=by
 intro q hq;refine⟨fun e=>Av h.rules h.al (by decide) (e▸hq),fun e=>?_,fun e=>?_⟩
 ·rcases h.rows.2.2 with⟨rfl,_⟩|⟨r,D,rfl,_,j,_⟩
  ·simp[AN]at e
  ·simp only[AN,Al]at e;exact Iw j h.rules (e▸hq)
 ·rcases Em h.rules h.rows.1 (by decide) with h1|h1
  ·rw[h1]at hq;cases hq
  ·exact h1 (hq.trans e.symm)
theorem Fi.apart{w:World}{own:Bu}{base tb:Nat}{V:TV}{D:TD}{qs:List A4}{S:List A1}{sz:Nat}(h:Fi w own base tb V D qs S sz):∀q,V.li.ownBlock=some q->AN V.qm≠some q/\V.ql.ownBlock≠some q:=by
 intro q hq;refine⟨fun e=>?_,fun e=>?_⟩
 ·rcases h.qs.2.2 with⟨j,_⟩|⟨r,D,j,_,z,_⟩
  ·rw[j]at e;simp[AN]at e
  ·rw[j]at e;simp only[AN,Al]at e;exact Iw z h.list (e▸hq)
 ·rcases Em h.list h.qs.1 (by decide) with h1|h1
  ·rw[h1]at hq;cases hq
  ·exact h1 (hq.trans e.symm)
end
section
attribute [local go_sem] AE As
open Go.RowKit Go.WideMaps Go.Maps
theorem eQ{α:Type}[DecidableEq α](xs:List α)(k:α):Ci xs k<=xs.length:=by
 unfold Ci
 split
 ·exact List.idxOf_le_length
 ·exact Cq _
theorem dA{α:Type}[DecidableEq α](xs:List α)(k:α):(CO xs k).length<=xs.length+1:=by
 unfold CO
 split<;>simp
theorem Yl(w:World)(base vb ov:Nat)(cs:List Value)(t:TypeId)(mv lv:Value)(xs:List B8)(k:B8)(c:Aw w vb cs t)(r:cs[ov]? =some mv)(h1:cs[ov+1]? =some lv)(hS:Cu w base mv lv xs)(m:k.length<=maxLen)(hn:xs.length<=1000000000000)(ht:t≠9)(v:base<=w.heap.size)(g:Bo k=true)(tb n:Nat):
 Calls prog 177 #[.pointer (some ⟨tb,n,none⟩),.string (bs k),.pointer (some ⟨vb,ov,none⟩)] w fun e w'=>e=.returned (.int .i64 (-4-(Ci (CO xs k) k:Nat)))/\
  ∃q lv',Aw w' vb ((cs.set ov q).set (ov+1) lv') t/\Cu w' base q lv' (CO xs k)/\Cs w w' vb mv lv q lv':=by
 have b:=Ao (R0 w base vb ov cs t mv lv xs k c r h1 hS m hn ht v);have q0:Ci (CO xs k) k<=1000000000001:=Ay (eQ _ _) (Ay (dA _ _) (by omega));generalize Ci (CO xs k) k=p at*;have d:=Ao g;clear g;go_enter func177,ntmps177;go_wp2_with (first|(go_at_call 94;refine(DS k _).mono ?_;rintro e w9 ⟨u,q1⟩;subst w9;rw[d.out]at u;subst u)|(go_at_call 107;refine(b.out).mono ?_;rintro e w1 ⟨rfl,q,lv',j,y,z⟩))
 go_ret
 exact⟨by first|rfl|(congr 2;omega),q,lv',j,y,z⟩
theorem TX(w:World)(base tb j:Nat)(cs:List Value)(t:TypeId)(mv lv:Value)(xs:List B8)(k:B8)(m:Aw w tb cs t)(c:cs[j+2]? =some mv)(h1:cs[j+2+1]? =some lv)(hS:Cu w base mv lv xs)(n:k.length<=maxLen)(hn:xs.length<=1000000000000)(ht:t≠9)(u:base<=w.heap.size)(b:Bo k=false)(x:Value):
 Calls prog 177 #[.pointer (some ⟨tb,j,none⟩),.string (bs k),x] w fun e w'=>e=.returned (.int .i64 (Ci (CO xs k) k:Nat))/\
  ∃q lv',Aw w' tb ((cs.set (j+2) q).set (j+2+1) lv') t/\Cu w' base q lv' (CO xs k)/\Cs w w' tb mv lv q lv':=by
 have d:=Ao (R0 w base tb (j+2) cs t mv lv xs k m c h1 hS n hn ht u);generalize Ci (CO xs k) k=p at*;have r:=Ao b;clear b;go_enter func177,ntmps177;go_wp2_with (first|(go_at_call 94;refine(DS k _).mono ?_;rintro e w9 ⟨g,q0⟩;subst w9;rw[r.out]at g;subst g)|(go_at_call 107;refine(d.out).mono ?_;rintro e w1 ⟨rfl,q,lv',z,v,y⟩))
 go_ret
 exact⟨rfl,q,lv',z,v,y⟩
end
section
def AO(ts:List B8)(i:Nat):B8:=ts.getD i []
theorem Ql:Bo []=false:=rfl
theorem GP(s:B8->B8)(ts:List B8)(i:Nat):AO (Ct s ts) i=IJ s (AO ts i):=by
 unfold AO Ct;rw[Ap,Ap,Ba]
 cases ts[i]? with
 |some t=>rfl
 |none=>simp[IJ,Ql]
theorem Ge{α:Type}[DecidableEq α](xs:List α)(k:α)(h:k∈xs):xs[Ci xs k]? =some k:=by unfold Ci;rw[Ai h,Ar (List.idxOf_lt_length_iff.2 h)];simp
theorem Ri{α:Type}[DecidableEq α](xs:List α)(k:α)(h:k∈xs):Ci xs k<xs.length:=(List.getElem?_eq_some_iff.1 (Ge xs k h)).1
theorem Iv{α:Type}[DecidableEq α]{xs:List α}(hn:xs.Nodup){k:α}{i:Nat}(h:xs[i]? =some k):Ci xs k=i:=by have q:k∈xs:=AP h;have h1:=Ge xs k q;obtain⟨a,b⟩:=List.getElem?_eq_some_iff.1 h;obtain⟨c,e⟩:=List.getElem?_eq_some_iff.1 h1;exact(List.getElem_inj hn).1 (e.trans b.symm)
def Ev(cl vs:List B8)(t:B8):Int:=if Bo t=true then-4-(Ci vs t:Nat) else(Ci cl t:Nat)
def KV(cl vs:List B8)(ts:List B8):R3:=⟨Ev cl vs (AO ts 0),Ev cl vs (AO ts 1),Ev cl vs (AO ts 2)⟩
def CX(nm cl vs:List B8)(n:B8)(ts:List B8):A4:=⟨(Ci nm n:Nat),KV cl vs ts⟩
def Bd.sorted(d:Bd):List BQ:=d.lits.filter (fun l=> !l.neg)++d.lits.filter (fun l=>l.neg)
def Ig(nm cl vs:List B8)(L:List BQ)(i:Nat):A4:=match L[i]? with
 |some l=>CX nm cl vs l.name l.ts
 |none=>Pg
def ED(nm cl vs:List B8)(d:Bd):Dq:=⟨CX nm cl vs d.name d.ts,Ig nm cl vs d.sorted 0,Ig nm cl vs d.sorted 1,Ig nm cl vs d.sorted 2,Ig nm cl vs d.sorted 3,(d.lits.filter (fun l=> !l.neg)).length,d.sorted.length⟩
theorem Bd.cy(d:Bd):d.sorted.length=d.lits.length:=by
 unfold Bd.sorted;rw[Am]
 induction d.lits with
 |nil=>rfl
 |cons l r ih=>cases h:l.neg<;>simp[h]<;>omega
theorem Bd.ax(d:Bd)(l:BQ):l∈d.sorted↔l∈d.lits:=by unfold Bd.sorted;rw[Bi,Ph,Ph];cases h:l.neg<;>simp
theorem Bd.be(d:Bd)(i:Nat)(l:BQ)(h:d.sorted[i]? =some l):l.neg=decide ((d.lits.filter (fun l=> !l.neg)).length<=i):=by
 unfold Bd.sorted at h;rw[List.getElem?_append]at h
 split at h
 ·have:=List.mem_filter.1 (AP h);rw[A5 (by omega)];simpa using this.2
 ·have:=List.mem_filter.1 (AP h);rw[Bq (by omega)];simpa using this.2
theorem IB(nm cl vs:List B8)(d:Bd)(i:Nat)(l:BQ)(h:d.sorted[i]? =some l)(h4:d.lits.length<=4):(ED nm cl vs d).b i=CX nm cl vs l.name l.ts:=by
 have q:=(List.getElem?_eq_some_iff.1 h).1;rw[Bd.cy]at q;have e:Ig nm cl vs d.sorted i=CX nm cl vs l.name l.ts:=by unfold Ig;rw[h]
 match i,q with
 |0,_=>exact e
 |1,_=>exact e
 |2,_=>exact e
 |3,_=>exact e
 |_+4,q=>omega
structure KW(nm cl:List B8)(ar:B8->Nat)(n:B8)(ts:List B8):Prop where
 name:n∈nm
 len:ts.length<=3
 ar:ts.length=ar n
 ae:∀i,i<3->Bo (AO ts i)=false->AO ts i∈cl
structure ML(ds:List Bd)(nm cl:List B8)(ar:B8->Nat):Prop where
 ndn:nm.Nodup
 ndc:cl.Nodup
 head:∀d∈ds,KW nm cl ar d.name d.ts
 lit:∀d∈ds,∀l∈d.lits,KW nm cl ar l.name l.ts
 four:∀d∈ds,d.lits.length<=4
 safe:∀d∈ds,∀t,Bo t=true->(t∈d.ts\/∃l∈d.lits,l.neg=true/\t∈l.ts)->∃l∈d.lits,l.neg=false/\t∈l.ts
def MK(nm cl:List B8)(d:Bd)(r:Dq):Prop:=∃vs,(∀t,Bo t=true->(t∈d.ts\/∃l∈d.lits,t∈l.ts)->t∈vs)/\vs.Nodup/\r=ED nm cl vs d
structure Uu(nm cl:List B8)(n:Int)(x:R3)(a:BA):Prop where
 n0:0<=n
 n:nm[n.toNat]? =some a.1
 g:x.Ground
 t0:cl[x.a.toNat]? =some (AO a.2 0)
 t1:cl[x.b.toNat]? =some (AO a.2 1)
 t2:cl[x.c.toNat]? =some (AO a.2 2)
theorem IC{cl vs:List B8}{t:B8}(h:Bo t=false):Ev cl vs t=(Ci cl t:Nat):=by unfold Ev;rw[Af (by simp[h])]
theorem Kz{cl vs:List B8}{t:B8}(h:Bo t=true):Ev cl vs t= -4-(Ci vs t:Nat):=by unfold Ev;rw[Ai h]
theorem GQ{ts:List B8}{i:Nat}(h:Bo (AO ts i)=true):AO ts i∈ts:=by
 unfold AO at*;rw[Ap]at*
 cases e:ts[i]? with
 |none=>rw[e]at h;simp[Ql]at h
 |some t=>exact AP e
theorem J1{ts:List B8}{t:B8}(h:t∈ts)(hl:ts.length<=3):∃i,i<3/\AO ts i=t:=by obtain⟨i,q,rfl⟩:=B3 h;exact⟨i,by omega,by unfold AO;rw[Ap,Ar q];rfl⟩
theorem I7{cl vs:List B8}{ts:List B8}{y:Int}:(KV cl vs ts).Has y↔ ∃i,i<3/\y=Ev cl vs (AO ts i):=by
 unfold R3.Has KV;constructor
 ·rintro(h|h|h)
  ·exact⟨0,by omega,h⟩
  ·exact⟨1,by omega,h⟩
  ·exact⟨2,by omega,h⟩
 ·rintro⟨i,q,h⟩
  match i,q with
  |0,_=>exact .inl h
  |1,_=>exact .inr (.inl h)
  |2,_=>exact .inr (.inr h)
def dB(cl vs:List B8)(σ:Int->Int)(s:B8->B8)(t:B8):Prop:=cl[(σ (Ev cl vs t)).toNat]? =some (IJ s t)
theorem OD{nm cl vs:List B8}{ar:B8->Nat}{n:B8}{ts:List B8}(q:KW nm cl ar n ts){σ:Int->Int}(j:Ut σ){s:B8->B8}(h:∀i,i<3->dB cl vs σ s (AO ts i)):Uu nm cl (CX nm cl vs n ts).n ((CX nm cl vs n ts).r.map σ) (n,Ct s ts):=by
 refine⟨F0 _,?_,j.ground _,?_,?_,?_⟩
 ·show nm[((Ci nm n:Nat):Int).toNat]? =some n;exact Ge nm n q.name
 ·show cl[(σ (Ev cl vs (AO ts 0))).toNat]? =some (AO (Ct s ts) 0);rw[GP];exact h 0 (by omega)
 ·show cl[(σ (Ev cl vs (AO ts 1))).toNat]? =some (AO (Ct s ts) 1);rw[GP];exact h 1 (by omega)
 ·show cl[(σ (Ev cl vs (AO ts 2))).toNat]? =some (AO (Ct s ts) 2);rw[GP];exact h 2 (by omega)
theorem IW{cl vs:List B8}{σ:Int->Int}(j:O6 σ)(s:B8->B8){t:B8}(h:Bo t=false)(q:t∈cl):dB cl vs σ s t:=by unfold dB;rw[IC h,j _ (F0 _),show IJ s t=t by simp[IJ,h]];exact Ge cl t q
def Is(cl vs:List B8)(σ:Int->Int)(t:B8):B8:=cl.getD (σ (Ev cl vs t)).toNat []
theorem Ka{nm cl vs:List B8}{ar:B8->Nat}{n:B8}{ts:List B8}(k:KW nm cl ar n ts){σ:Int->Int}(c:Ut σ){a:BA}(p:a.2.length=ar a.1)(h:Uu nm cl (CX nm cl vs n ts).n ((CX nm cl vs n ts).r.map σ) a):a=(n,Ct (Is cl vs σ) ts)/\∀i,i<3->dB cl vs σ (Is cl vs σ) (AO ts i):=by
 have h1:nm[((Ci nm n:Nat):Int).toNat]? =some a.1:=h.n;have h2:nm[((Ci nm n:Nat):Int).toNat]? =some n:=Ge nm n k.name;have g:a.1=n:=by rw[h1]at h2;injection h2
 have h3:∀i,i<3->cl[(σ (Ev cl vs (AO ts i))).toNat]? =some (AO a.2 i):=by
  intro i j
  match i,j with
  |0,_=>exact h.t0
  |1,_=>exact h.t1
  |2,_=>exact h.t2
 have b:∀i,i<3->AO a.2 i=IJ (Is cl vs σ) (AO ts i):=by
  intro i j;unfold IJ
  split
  ·unfold Is;rw[Ap,h3 i j];rfl
  ·rename_i y;have y:Bo (AO ts i)=false:=by simpa using y
   have q:=h3 i j;rw[IC y,c.fix _ (F0 _)]at q;have t:=Ge cl _ (k.ae i j y);rw[show(((Ci cl (AO ts i):Nat):Int)).toNat=Ci cl (AO ts i) from rfl,t]at q
   injection q with q
   exact q.symm
 have d:a.2=Ct (Is cl vs σ) ts:=by
  have z:a.2.length=(Ct (Is cl vs σ) ts).length:=by rw[p,g,<-k.ar];simp[Ct]
  apply List.ext_getElem z;intro i j v
  have u:i<3:=by
   have:=k.len;have:(Ct (Is cl vs σ) ts).length=ts.length:=by simp[Ct]
   omega
  have q:=b i u;rw[<-GP]at q;unfold AO at q;rw[Ap,Ap,Ar j,Ar v]at q;exact q
 refine⟨Prod.ext g d,fun i j=>?_⟩;unfold dB;rw[h3 i j,b i j]
theorem Uu.same{nm cl:List B8}(hn:nm.Nodup)(hc:cl.Nodup){n n':Int}{x x':R3}{a:BA}(h:Uu nm cl n x a)(q:Uu nm cl n' x' a):n=n'/\x=x':=by have e1:=(Iv hn h.n).symm.trans (Iv hn q.n);have e2:=(Iv hc h.t0).symm.trans (Iv hc q.t0);have e3:=(Iv hc h.t1).symm.trans (Iv hc q.t1);have e4:=(Iv hc h.t2).symm.trans (Iv hc q.t2);have a1:=h.n0;have a2:=q.n0;have b1:=h.g x.a (.inl rfl);have b2:=q.g x'.a (.inl rfl);have c1:=h.g x.b (.inr (.inl rfl));have c2:=q.g x'.b (.inr (.inl rfl));have d1:=h.g x.c (.inr (.inr rfl));have d2:=q.g x'.c (.inr (.inr rfl));refine⟨by omega,?_⟩;obtain⟨x1,x2,x3⟩:=x;obtain⟨y1,y2,y3⟩:=x';simp only at*;congr 1<;>omega
def YU(nm cl:List B8)(M:BA->Prop)(n:Int)(x:R3):Prop:=∃a,M a/\Uu nm cl n x a
section
variable {ds:List Bd} {nm cl:List B8} {ar:B8->Nat} {M:BA->Prop}
theorem Kx(hS:FT ds M)(hC:ML ds nm cl ar){a:BA}(h:M a):a.2.length=ar a.1:=by refine hS.least (fun a=>a.2.length=ar a.1) ?_ a h;intro d hd s _ _;show(Ct s d.ts).length=ar d.name;rw[<-(hC.head d hd).ar];simp[Ct]
theorem LG(hS:FT ds M)(hC:ML ds nm cl ar){a:BA}(h:M a):a.1∈nm/\∀i,i<3->AO a.2 i∈cl:=by
 refine hS.least (fun a=>a.1∈nm/\∀i,i<3->AO a.2 i∈cl) ?_ a h;intro d hd s hm u;refine⟨(hC.head d hd).name,fun i k=>?_⟩;show AO (Ct s d.ts) i∈cl;rw[GP];unfold IJ
 split
 ·rename_i z;obtain⟨l,y,q,ht⟩:=hC.safe d hd _ z (.inl (GQ z));obtain⟨j,v,e⟩:=J1 ht (hC.lit d hd l y).len;have:=(u l y q).2 j v;rw[show(l.put s).2=Ct s l.ts from rfl,GP,e]at this;simpa[IJ,z]using this
 ·rename_i z;exact(hC.head d hd).ae i k (by simpa using z)
theorem RM(hS:FT ds M)(hC:ML ds nm cl ar){d:Bd}(hd:d∈ds){s:B8->B8}(v:∀l∈d.lits,l.neg=false->M (l.put s)):∀t,Bo t=true->(t∈d.ts\/∃l∈d.lits,t∈l.ts)->s t∈cl:=by
 intro t y ht
 have:∃l∈d.lits,l.neg=false/\t∈l.ts:=by
  rcases ht with ht|⟨l,q,ht⟩
  ·exact hC.safe d hd t y (.inl ht)
  ·cases e:l.neg with
   |false=>exact⟨l,q,e,ht⟩
   |true=>exact hC.safe d hd t y (.inr ⟨l,q,e,ht⟩)
 obtain⟨l,q,z,ht⟩:=this;obtain⟨j,k,e⟩:=J1 ht (hC.lit d hd l q).len;have:=(LG hS hC (v l q z)).2 j k;rw[show(l.put s).2=Ct s l.ts from rfl,GP,e]at this;simpa[IJ,y]using this
theorem bU(hS:FT ds M)(hC:ML ds nm cl ar){d:Bd}(hd:d∈ds){vs:List B8}{σ:Int->Int}(z:Ut σ){s:B8->B8}(m:∀t,Bo t=true->(t∈d.ts\/∃l∈d.lits,t∈l.ts)->dB cl vs σ s t)(b:dH M d s):nC (YU nm cl M) (ED nm cl vs d) 0 σ:=by
 intro i _ k;have v:i<d.sorted.length:=k;have hs:=Ar v;generalize d.sorted[i]=l at hs;have q:l∈d.lits:=(d.ax l).1 (AP hs);have hb:=IB nm cl vs d i l hs (hC.four d hd);have hn:=d.be i l hs
 have j:Uu nm cl (CX nm cl vs l.name l.ts).n ((CX nm cl vs l.name l.ts).r.map σ) (l.put s):=by
  refine OD (hC.lit d hd l q) z (fun i k=>?_)
  cases e:Bo (AO l.ts i) with
  |true=>exact m _ e (.inr ⟨l,q,GQ e⟩)
  |false=>exact IW z.fix s e ((hC.lit d hd l q).ae i k e)
 rw[hb];refine⟨fun h=>⟨l.put s,(b l q).1 (by rw[hn];exact A5 (by show ¬_<=_;exact Nat.not_le.2 h)),j⟩,fun h=>?_⟩;rintro⟨a,g,y⟩;have u:l.neg=true:=by rw[hn];exact Bq h
 have:a=l.put s:=by
  obtain⟨p,_⟩:=Ka (hC.lit d hd l q) z (Kx hS hC g) y
  obtain⟨c,_⟩:=Ka (hC.lit d hd l q) z (a:=l.put s) (by
   show(Ct s l.ts).length=ar l.name;rw[<-(hC.lit d hd l q).ar]
   simp[Ct]) j
  rw[p,c]
 exact(b l q).2 u (this▸g)
theorem SB(hS:FT ds M)(hC:ML ds nm cl ar){rules:List Dq}(hc:∀r∈rules,∃d∈ds,MK nm cl d r)(K:∀d∈ds,∃r∈rules,MK nm cl d r):MH rules (YU nm cl M):=by
 refine⟨?_,?_⟩
 ·intro r G σ b J;obtain⟨d,hd,vs,Z,B,rfl⟩:=hc r G;have m:∀l∈d.lits,∃i,d.sorted[i]? =some l:=fun l q=>List.getElem?_of_mem ((d.ax l).2 q)
  have f:∀l∈d.lits,l.neg=false->M (l.put (Is cl vs σ))/\∀i,i<3->dB cl vs σ (Is cl vs σ) (AO l.ts i):=by
   intro l q hn;obtain⟨i,y⟩:=m l q;have g:i<d.sorted.length:=(List.getElem?_eq_some_iff.1 y).1;have k:=d.be i l y;rw[hn]at k;have k:i<(ED nm cl vs d).pos:=by have:=Wl k.symm;exact Nat.not_le.1 this
   obtain⟨a,o,u⟩:=(J i (Cq _) g).1 k;rw[IB nm cl vs d i l y (hC.four d hd)]at u;obtain⟨e,p⟩:=Ka (hC.lit d hd l q) b (Kx hS hC o) u;have e:a=l.put (Is cl vs σ):=e;exact⟨e▸o,p⟩
  have z:∀t,Bo t=true->(t∈d.ts\/∃l∈d.lits,t∈l.ts)->dB cl vs σ (Is cl vs σ) t:=by
   intro t p ht
   have:∃l∈d.lits,l.neg=false/\t∈l.ts:=by
    rcases ht with ht|⟨l,q,ht⟩
    ·exact hC.safe d hd t p (.inl ht)
    ·cases e:l.neg with
     |false=>exact⟨l,q,e,ht⟩
     |true=>exact hC.safe d hd t p (.inr ⟨l,q,e,ht⟩)
   obtain⟨l,q,hn,ht⟩:=this;obtain⟨j,U,rfl⟩:=J1 ht (hC.lit d hd l q).len;exact(f l q hn).2 j U
  have Q:∀(n:B8) (ts:List B8),KW nm cl ar n ts->(∀t,Bo t=true->t∈ts->(t∈d.ts\/∃l∈d.lits,t∈l.ts))->Uu nm cl (CX nm cl vs n ts).n ((CX nm cl vs n ts).r.map σ) (n,Ct (Is cl vs σ) ts):=by
   intro n ts Y hin;refine OD Y b (fun i y=>?_)
   cases e:Bo (AO ts i) with
   |true=>exact z _ e (hin _ e (GQ e))
   |false=>exact IW b.fix _ e (Y.ae i y e)
  refine⟨d.put (Is cl vs σ),hS.closed d hd _ ?_,Q d.name d.ts (hC.head d hd) (fun t _ ht=>.inl ht)⟩;intro l q;refine⟨fun hn=>(f l q hn).1,fun hn N=>?_⟩;obtain⟨i,y⟩:=m l q;have g:i<d.sorted.length:=(List.getElem?_eq_some_iff.1 y).1;have k:=d.be i l y;rw[hn]at k;have k:(ED nm cl vs d).pos<=i:=BV k.symm;refine(J i (Cq _) g).2 k ⟨l.put (Is cl vs σ),N,?_⟩;rw[IB nm cl vs d i l y (hC.four d hd)];exact Q l.name l.ts (hC.lit d hd l q) (fun t _ ht=>.inr ⟨l,q,ht⟩)
 ·intro P X n x ⟨a,o,u⟩;refine hS.least (fun a=>∀n x,Uu nm cl n x a->P n x) ?_ a o n x u;clear u o n x a;intro d hd s J k n x hx;obtain⟨r,G,vs,Z,B,rfl⟩:=K d hd
  let σ:Int->Int:=fun v=>if v<0 then(Ci cl (s (vs.getD (-4-v).toNat [])):Nat) else v
  have b:Ut σ:=⟨fun c hc=>Af (by omega),fun v=>by
   show 0<=(if v<0 then((Ci cl (s (vs.getD (-4-v).toNat [])):Nat):Int) else v)
   split
   ·exact F0 _
   ·omega⟩
  have Y:=RM hS hC hd (fun l q e=>(J l q).1 e)
  have z:∀t,Bo t=true->(t∈d.ts\/∃l∈d.lits,t∈l.ts)->dB cl vs σ s t:=by
   intro t p ht;have k:=Ge vs t (Z t p ht);unfold dB;rw[Kz p];have e:σ (-4-(Ci vs t:Nat))=(Ci cl (s t):Nat):=by show(if(-4-((Ci vs t:Nat):Int))<0 then((Ci cl (s (vs.getD (-4-(-4-((Ci vs t:Nat):Int))).toNat [])):Nat):Int) else _)=_;rw[Ai (by omega),show(-4-(-4-((Ci vs t:Nat):Int))).toNat=Ci vs t by omega,Ap,k];rfl
   rw[e,show IJ s t=s t by simp[IJ,p]];exact Ge cl (s t) (Y t p ht)
  have V:Uu nm cl (ED nm cl vs d).h.n ((ED nm cl vs d).h.r.map σ) (d.put s):=by
   refine OD (hC.head d hd) b (fun i y=>?_)
   cases e:Bo (AO d.ts i) with
   |true=>exact z _ e (.inl (GQ e))
   |false=>exact IW b.fix s e ((hC.head d hd).ae i y e)
  obtain⟨R,C⟩:=hx.same hC.ndn hC.ndc V;subst R C;refine X _ G σ b (bU hS hC hd b z J) ?_;intro i y;have g:i<d.sorted.length:=AH y (by show(d.lits.filter (fun l=> !l.neg)).length<=_;unfold Bd.sorted;rw[Am];omega);have hs:=Ar g;generalize d.sorted[i]=l at hs;have q:l∈d.lits:=(d.ax l).1 (AP hs);have hn:l.neg=false:=by rw[d.be i l hs];exact A5 (Nat.not_le.2 y)
  rw[IB nm cl vs d i l hs (hC.four d hd)];refine k l q hn _ _ (OD (hC.lit d hd l q) b (fun j U=>?_))
  cases e:Bo (AO l.ts j) with
  |true=>exact z _ e (.inr ⟨l,q,GQ e⟩)
  |false=>exact IW b.fix s e ((hC.lit d hd l q).ae j U e)
end
end
section
def XW(lay:B8->Nat)(nm:List B8)(n:Int):Nat:=lay (nm.getD n.toNat [])
theorem Tq{lay:B8->Nat}{nm:List B8}{k:B8}(h:k∈nm):XW lay nm (Ci nm k:Nat)=lay k:=by unfold XW;rw[Ap,show(((Ci nm k:Nat):Int)).toNat=Ci nm k from rfl,Ge nm k h];rfl
theorem TW{cl vs:List B8}{t:B8}(h:Bo t=false->t∈cl):Ev cl vs t<(cl.length:Int)+1:=by
 unfold Ev
 split
 ·omega
 ·rename_i q;have:=Ri cl t (h (by simpa using q));omega
theorem My{cl vs:List B8}{t:B8}(h:Ev cl vs t<0):Bo t=true/\Ev cl vs t= -4-(Ci vs t:Nat):=by
 cases e:Bo t with
 |true=>exact⟨rfl,Kz e⟩
 |false=>rw[IC e]at h;omega
theorem VI(nm cl vs:List B8)(d:Bd)(i:Nat):(∃(j:Nat) (l:BQ),d.sorted[j]? =some l/\(ED nm cl vs d).b i=CX nm cl vs l.name l.ts)\/(ED nm cl vs d).b i=Pg:=by
 have q:∀j,(ED nm cl vs d).b i=Ig nm cl vs d.sorted j->(∃(j:Nat) (l:BQ),d.sorted[j]? =some l/\(ED nm cl vs d).b i=CX nm cl vs l.name l.ts)\/(ED nm cl vs d).b i=Pg:=by
  intro j e;rw[e];unfold Ig
  cases h:d.sorted[j]? with
  |some l=>exact .inl ⟨j,l,h,rfl⟩
  |none=>exact .inr rfl
 match i with
 |0=>exact q 0 rfl
 |1=>exact q 1 rfl
 |2=>exact q 2 rfl
 |_+3=>exact q 3 rfl
theorem Jy(nm cl vs:List B8)(L:List BQ)(i:Nat)(h:L.length<=i):Ig nm cl vs L i=Pg:=by unfold Ig;rw[Di h]
theorem UT{ds:List Bd}{nm cl:List B8}{ar:B8->Nat}(hC:ML ds nm cl ar){lay:B8->Nat}(s:MJ lay ds){rules:List Dq}(hc:∀r∈rules,∃d∈ds,MK nm cl d r):KH (XW lay nm) (nm.length:Int) ((cl.length:Int)+1) rules:=by
 have f:∀(n:B8) (ts:List B8) (vs:List B8),KW nm cl ar n ts->∀y,(CX nm cl vs n ts).r.Has y->y<(cl.length:Int)+1/\(y<0->y<= -4):=by intro n ts vs c y q;obtain⟨i,g,rfl⟩:=I7.1 q;exact⟨TW (c.ae i g),fun h=>by rw[(My h).2];omega⟩
 have Z:∀y,Pg.r.Has y->y<(cl.length:Int)+1/\(y<0->y<= -4):=by
  intro y q
  have:y=0:=by rcases q with h|h|h<;>exact h
  omega
 have Q:∀d∈ds,∀vs i y,((ED nm cl vs d).b i).r.Has y->y<(cl.length:Int)+1/\(y<0->y<= -4):=by
  intro d hd vs i y q;rcases VI nm cl vs d i with⟨j,l,a,e⟩|e
  ·rw[e]at q;exact f _ _ _ (hC.lit d hd l ((d.ax l).1 (AP a))) y q
  ·rw[e]at q;exact Z y q
 have m:∀d∈ds,d.sorted.length<=4:=fun d hd=>by rw[d.cy];exact hC.four d hd
 refine⟨?_,?_,?_,?_,?_,?_⟩
 ·intro r z;obtain⟨d,hd,vs,u,k,rfl⟩:=hc r z;refine⟨m d hd,?_,fun h=>Jy _ _ _ _ _ h,fun h=>Jy _ _ _ _ _ h,fun h=>Jy _ _ _ _ _ h,fun h=>Jy _ _ _ _ _ h⟩;show(d.lits.filter (fun l=> !l.neg)).length<=d.sorted.length;unfold Bd.sorted;rw[Am];omega
 ·intro r z;obtain⟨d,hd,vs,u,k,rfl⟩:=hc r z;intro v J c
  have:∃t,Bo t=true/\v=Ev cl vs t/\(t∈d.ts\/∃l∈d.lits,l.neg=true/\t∈l.ts):=by
   rcases c with c|⟨j,h1,h2,c⟩
   ·obtain⟨i,g,rfl⟩:=I7.1 (show(KV cl vs d.ts).Has v from c);have:=(My J).1;exact⟨_,this,rfl,.inl (GQ this)⟩
   ·have h2:j<d.sorted.length:=h2;have hs:=Ar h2;generalize d.sorted[j]=l at hs;rw[IB nm cl vs d j l hs (hC.four d hd)]at c;obtain⟨i,g,rfl⟩:=I7.1 (show(KV cl vs l.ts).Has v from c);have:=(My J).1;refine⟨_,this,rfl,.inr ⟨l,(d.ax l).1 (AP hs),?_,GQ this⟩⟩;rw[d.be j l hs];exact Bq h1
  obtain⟨t,ht,rfl,hin⟩:=this;obtain⟨l,s,hn,o⟩:=hC.safe d hd t ht hin;obtain⟨i,g⟩:=List.getElem?_of_mem ((d.ax l).2 s);have p:=d.be i l g;rw[hn]at p;have p:i<(ED nm cl vs d).pos:=Nat.not_le.1 (Wl p.symm);refine⟨i,Cq _,p,?_⟩;rw[IB nm cl vs d i l g (hC.four d hd)];obtain⟨j,a,e⟩:=J1 o (hC.lit d hd l s).len;exact I7.2 ⟨j,a,by rw[e]⟩
 ·intro r z;obtain⟨d,hd,vs,u,k,rfl⟩:=hc r z;exact⟨fun y q=>(f _ _ vs (hC.head d hd) y q).1,fun i y q=>(Q d hd vs i y q).1⟩
 ·intro r z;obtain⟨d,hd,vs,u,k,rfl⟩:=hc r z;exact⟨fun y q=>(f _ _ vs (hC.head d hd) y q).2,fun i y q=>(Q d hd vs i y q).2⟩
 ·intro r z i g;obtain⟨d,hd,vs,u,k,rfl⟩:=hc r z;have h2:i<d.sorted.length:=g;have hs:=Ar h2;generalize d.sorted[i]=l at hs;rw[IB nm cl vs d i l hs (hC.four d hd)];have:=Ri nm l.name (hC.lit d hd l ((d.ax l).1 (AP hs))).name;show 0<=((Ci nm l.name:Nat):Int)/\((Ci nm l.name:Nat):Int)<(nm.length:Int);omega
 ·intro r z i g;obtain⟨d,hd,vs,u,k,rfl⟩:=hc r z;have h2:i<d.sorted.length:=g;have hs:=Ar h2;generalize d.sorted[i]=l at hs;rw[IB nm cl vs d i l hs (hC.four d hd)];have x:=(d.ax l).1 (AP hs);have h1:XW lay nm (CX nm cl vs l.name l.ts).n=lay l.name:=Tq (hC.lit d hd l x).name;have h3:XW lay nm (ED nm cl vs d).h.n=lay d.name:=Tq (hC.head d hd).name;rw[h1,h3];have:=s d hd l x;have p:=d.be i l hs;refine⟨fun _=>by omega,fun h=>?_⟩;have p:l.neg=true:=by rw[p];exact Bq h
  rw[Ai p]at this;omega
abbrev W3:=List B8×List B8×List B8
def BN(x:List B8×List B8)(t:B8):List B8×List B8:=if Bo t=true then(x.1,CO x.2 t) else(CO x.1 t,x.2)
def NU(x:List B8×List B8)(ts:List B8):List B8×List B8:=BN (BN (BN x (AO ts 0)) (AO ts 1)) (AO ts 2)
def CY(x:W3)(n:B8)(ts:List B8):W3:=(CO x.1 n,NU x.2 ts)
def Ej(x:W3)(L:List BQ):W3:=L.foldl (fun x l=>CY x l.name l.ts) x
def B5(nm cl:List B8)(d:Bd):W3:=Ej (CY (nm,cl,[]) d.name d.ts) d.sorted
theorem LV{α:Type}[DecidableEq α](xs:List α)(k:α):xs<+:CO xs k:=by
 unfold CO
 split
 ·exact By _
 ·exact Wm _ _
theorem LW{α:Type}[DecidableEq α](xs:List α)(k:α):k∈CO xs k:=by
 unfold CO
 split
 ·assumption
 ·simp
theorem cZ{α:Type}[DecidableEq α]{xs:List α}{k x:α}(h:x∈CO xs k):x∈xs\/x=k:=by
 unfold CO at h
 split at h
 ·exact .inl h
 ·simpa using h
theorem JB{α:Type}[DecidableEq α]{xs:List α}(h:xs.Nodup)(k:α):(CO xs k).Nodup:=by
 unfold CO
 split
 ·exact h
 ·rename_i j;exact List.nodup_append.2 ⟨h,by simp,fun a q b hb=>by simp at hb;subst hb;rintro rfl;exact j q⟩
theorem N1{α:Type}[DecidableEq α]{xs ys:List α}{k:α}(h:k∈xs)(q:xs<+:ys):Ci ys k=Ci xs k:=by obtain⟨zs,rfl⟩:=q;unfold Ci;rw[Ai h,Ai (List.mem_append.2 (.inl h)),Ec,Ai h]
structure LY(x y:W3):Prop where
 a:x.1<+:y.1
 b:x.2.1<+:y.2.1
 c:x.2.2<+:y.2.2
theorem LY.refl(x:W3):LY x x:=⟨By _,By _,By _⟩
theorem LY.trans{x y z:W3}(h:LY x y)(g:LY y z):LY x z:=⟨h.a.trans g.a,h.b.trans g.b,h.c.trans g.c⟩
theorem Gr(x:List B8×List B8)(t:B8):x.1<+:(BN x t).1/\x.2<+:(BN x t).2:=by
 unfold BN
 split
 ·exact⟨By _,LV _ _⟩
 ·exact⟨LV _ _,By _⟩
def Kh(x:List B8×List B8)(t:B8):Prop:=(Bo t=true->t∈x.2)/\(Bo t=false->t∈x.1)
theorem GN(x:List B8×List B8)(t:B8):Kh (BN x t) t:=by
 unfold BN Kh
 split
 ·rename_i h;exact⟨fun _=>LW _ _,fun q=>by rw[h]at q;cases q⟩
 ·rename_i h;exact⟨fun q=>absurd q h,fun _=>LW _ _⟩
theorem Kh.mono{x y:List B8×List B8}{t:B8}(h:Kh x t)(h1:x.1<+:y.1)(h2:x.2<+:y.2):Kh y t:=⟨fun e=>h2.subset (h.1 e),fun e=>h1.subset (h.2 e)⟩
theorem I6{x y:List B8×List B8}{t:B8}(h:Kh x t)(h1:x.1<+:y.1)(h2:x.2<+:y.2):Ev y.1 y.2 t=Ev x.1 x.2 t:=by
 unfold Ev
 split
 ·rename_i e;rw[N1 (h.1 e) h2]
 ·rename_i e;rw[N1 (h.2 (by simpa using e)) h1]
theorem SO(x:List B8×List B8)(ts:List B8):x.1<+:(NU x ts).1/\x.2<+:(NU x ts).2:=by have h1:=Gr x (AO ts 0);have h2:=Gr (BN x (AO ts 0)) (AO ts 1);have h3:=Gr (BN (BN x (AO ts 0)) (AO ts 1)) (AO ts 2);exact⟨(h1.1.trans h2.1).trans h3.1,(h1.2.trans h2.2).trans h3.2⟩
theorem UX(x:List B8×List B8)(ts:List B8):∀i,i<3->Kh (NU x ts) (AO ts i):=by
 have h1:=GN x (AO ts 0);have h2:=GN (BN x (AO ts 0)) (AO ts 1);have h3:=GN (BN (BN x (AO ts 0)) (AO ts 1)) (AO ts 2);have j:=Gr (BN x (AO ts 0)) (AO ts 1);have q:=Gr (BN (BN x (AO ts 0)) (AO ts 1)) (AO ts 2);intro i z
 match i,z with
 |0,_=>exact(h1.mono j.1 j.2).mono q.1 q.2
 |1,_=>exact h2.mono q.1 q.2
 |2,_=>exact h3
theorem Xu(x:List B8×List B8)(ts:List B8):KV (NU x ts).1 (NU x ts).2 ts=⟨Ev (BN x (AO ts 0)).1 (BN x (AO ts 0)).2 (AO ts 0),Ev (BN (BN x (AO ts 0)) (AO ts 1)).1 (BN (BN x (AO ts 0)) (AO ts 1)).2 (AO ts 1),Ev (NU x ts).1 (NU x ts).2 (AO ts 2)⟩:=by have h1:=GN x (AO ts 0);have h2:=GN (BN x (AO ts 0)) (AO ts 1);have j:=Gr (BN x (AO ts 0)) (AO ts 1);have q:=Gr (BN (BN x (AO ts 0)) (AO ts 1)) (AO ts 2);unfold KV;rw[R3.mk.injEq];exact⟨I6 h1 (j.1.trans q.1) (j.2.trans q.2),I6 h2 q.1 q.2,rfl⟩
theorem MD(x:W3)(n:B8)(ts:List B8):LY x (CY x n ts):=⟨LV _ _,(SO _ _).1,(SO _ _).2⟩
theorem I2(x:W3)(L:List BQ):LY x (Ej x L):=by
 unfold Ej
 induction L generalizing x with
 |nil=>exact .refl x
 |cons l r q=>exact(MD x l.name l.ts).trans (q _)
structure GD(x:W3)(n:B8)(ts:List B8):Prop where
 n:n∈x.1
 t:∀i,i<3->Kh x.2 (AO ts i)
theorem GD.mono{x y:W3}{n:B8}{ts:List B8}(h:GD x n ts)(q:LY x y):GD y n ts:=⟨q.a.subset h.n,fun i j=>(h.t i j).mono q.b q.c⟩
theorem GS(x:W3)(n:B8)(ts:List B8):GD (CY x n ts) n ts:=⟨LW _ _,UX _ _⟩
theorem KA{x y:W3}{n:B8}{ts:List B8}(h:GD x n ts)(q:LY x y):CX y.1 y.2.1 y.2.2 n ts=CX x.1 x.2.1 x.2.2 n ts:=by unfold CX KV;rw[N1 h.n q.a,I6 (h.t 0 (by omega)) q.b q.c,I6 (h.t 1 (by omega)) q.b q.c,I6 (h.t 2 (by omega)) q.b q.c]
theorem Ti(x:W3)(L:List BQ):∀l∈L,GD (Ej x L) l.name l.ts:=by
 unfold Ej
 induction L generalizing x with
 |nil=>intro l q;cases q
 |cons a r j=>
  intro l q;rcases List.mem_cons.1 q with rfl|q
  ·exact(GS x l.name l.ts).mono (I2 _ r)
  ·exact j _ l q
structure Wi(x:W3):Prop where
 a:x.1.Nodup
 b:x.2.1.Nodup
 c:x.2.2.Nodup
theorem Me{x:List B8×List B8}(h:x.1.Nodup/\x.2.Nodup)(t:B8):(BN x t).1.Nodup/\(BN x t).2.Nodup:=by
 unfold BN
 split
 ·exact⟨h.1,JB h.2 t⟩
 ·exact⟨JB h.1 t,h.2⟩
theorem KE{x:W3}(h:Wi x)(n:B8)(ts:List B8):Wi (CY x n ts):=by have:=Me (Me (Me (x:=x.2) ⟨h.b,h.c⟩ (AO ts 0)) (AO ts 1)) (AO ts 2);exact⟨JB h.a n,this.1,this.2⟩
theorem Qf{x:W3}(h:Wi x)(L:List BQ):Wi (Ej x L):=by
 unfold Ej
 induction L generalizing x with
 |nil=>exact h
 |cons l r q=>exact q (KE h l.name l.ts)
theorem Ym{x y:W3}{d:Bd}(h:GD x d.name d.ts)(j:∀l∈d.lits,GD x l.name l.ts)(q:LY x y):ED y.1 y.2.1 y.2.2 d=ED x.1 x.2.1 x.2.2 d:=by
 have k:∀i,Ig y.1 y.2.1 y.2.2 d.sorted i=Ig x.1 x.2.1 x.2.2 d.sorted i:=by
  intro i;unfold Ig
  cases e:d.sorted[i]? with
  |none=>rfl
  |some l=>exact KA (j l ((d.ax l).1 (AP e))) q
 unfold ED;rw[KA h q,k,k,k,k]
theorem Hm(x:List B8×List B8)(t:B8):(BN x t).1.length<=x.1.length+1/\(BN x t).2.length<=x.2.length+1:=by
 have:∀(xs:List B8) k,(CO xs k).length<=xs.length+1:=by
  intro xs k;unfold CO
  split<;>simp
 unfold BN
 split
 ·exact⟨Nat.le_succ _,this _ _⟩
 ·exact⟨this _ _,Nat.le_succ _⟩
structure iQ(x y:W3)(k:Nat):Prop where
 a:y.1.length<=x.1.length+k
 b:y.2.1.length<=x.2.1.length+3*k
 c:y.2.2.length<=x.2.2.length+3*k
theorem KF(x:W3)(n:B8)(ts:List B8):iQ x (CY x n ts) 1:=by
 have h1:=Hm x.2 (AO ts 0);have h2:=Hm (BN x.2 (AO ts 0)) (AO ts 1);have h3:=Hm (BN (BN x.2 (AO ts 0)) (AO ts 1)) (AO ts 2);refine⟨?_,?_,?_⟩
 ·show(CO x.1 n).length<=_;unfold CO
  split<;>simp
 ·show(BN (BN (BN x.2 (AO ts 0)) (AO ts 1)) (AO ts 2)).1.length<=_;omega
 ·show(BN (BN (BN x.2 (AO ts 0)) (AO ts 1)) (AO ts 2)).2.length<=_;omega
theorem Qg(x:W3)(L:List BQ):iQ x (Ej x L) L.length:=by
 unfold Ej
 induction L generalizing x with
 |nil=>exact⟨by simp,by simp,by simp⟩
 |cons l r q=>
  have h1:=KF x l.name l.ts;have h2:=q (CY x l.name l.ts);refine⟨?_,?_,?_⟩
  ·have:=h1.a;have:=h2.a;simp only[List.foldl_cons,List.length_cons];omega
  ·have:=h1.b;have:=h2.b;simp only[List.foldl_cons,List.length_cons];omega
  ·have:=h1.c;have:=h2.c;simp only[List.foldl_cons,List.length_cons];omega
def Du(nm cl:List B8)(ds:List Bd):List B8×List B8:=ds.foldl (fun x d=>((B5 x.1 x.2 d).1,(B5 x.1 x.2 d).2.1)) (nm,cl)
def EE(nm cl:List B8):List Bd->List Dq
 |[]=>[]
 |d::r=>ED (B5 nm cl d).1 (B5 nm cl d).2.1 (B5 nm cl d).2.2 d::EE (B5 nm cl d).1 (B5 nm cl d).2.1 r
theorem Xr(nm cl:List B8)(d:Bd):LY (nm,cl,[]) (B5 nm cl d):=(MD _ _ _).trans (I2 _ _)
theorem SL(nm cl:List B8)(d:Bd):GD (B5 nm cl d) d.name d.ts/\∀l∈d.lits,GD (B5 nm cl d) l.name l.ts:=
 ⟨(GS _ _ _).mono (I2 _ _),fun l q=>Ti _ _ l ((d.ax l).2 q)⟩
theorem cU(nm cl:List B8)(ds:List Bd):nm<+:(Du nm cl ds).1/\cl<+:(Du nm cl ds).2:=by
 unfold Du
 induction ds generalizing nm cl with
 |nil=>exact⟨By _,By _⟩
 |cons d r q=>have h:=Xr nm cl d;have h2:=q (B5 nm cl d).1 (B5 nm cl d).2.1;exact⟨h.a.trans h2.1,h.b.trans h2.2⟩
theorem cV{nm cl:List B8}(h1:nm.Nodup)(h2:cl.Nodup)(ds:List Bd):(Du nm cl ds).1.Nodup/\(Du nm cl ds).2.Nodup:=by
 unfold Du
 induction ds generalizing nm cl with
 |nil=>exact⟨h1,h2⟩
 |cons d r q=>have h:Wi (B5 nm cl d):=Qf (KE (x:=(nm,cl,[])) ⟨h1,h2,Cw⟩ d.name d.ts) d.sorted;exact q h.a h.b
theorem PY(ds:List Bd)(nm cl nm' cl':List B8)(h3:∀d∈ds,d.ts.length<=3/\∀l∈d.lits,l.ts.length<=3)(hn:(Du nm cl ds).1<+:nm')(hc:(Du nm cl ds).2<+:cl')(Z:nm.Nodup)(h1:cl.Nodup):
 (∀r∈EE nm cl ds,∃d∈ds,MK nm' cl' d r)/\(∀d∈ds,∃r∈EE nm cl ds,MK nm' cl' d r)/\∀d∈ds,(d.name∈nm'/\∀i,i<3->Bo (AO d.ts i)=false->AO d.ts i∈cl')/\∀l∈d.lits,l.name∈nm'/\∀i,i<3->Bo (AO l.ts i)=false->AO l.ts i∈cl':=by
 induction ds generalizing nm cl with
 |nil=>
  refine⟨?_,?_,?_⟩
  ·intro r K;cases K
  ·intro d hd;cases hd
  ·intro d hd;cases hd
 |cons d r R=>
  have p:(Du (B5 nm cl d).1 (B5 nm cl d).2.1 r).1<+:nm':=hn;have u:(Du (B5 nm cl d).1 (B5 nm cl d).2.1 r).2<+:cl':=hc;have k:=SL nm cl d;have z:Wi (B5 nm cl d):=Qf (KE (x:=(nm,cl,[])) ⟨Z,h1,Cw⟩ d.name d.ts) d.sorted;obtain⟨U,G,B⟩:=R _ _ (fun d hd=>h3 d (E4 _ hd)) p u z.a z.b;have m:=cU (B5 nm cl d).1 (B5 nm cl d).2.1 r;have J:LY (B5 nm cl d) (nm',cl',(B5 nm cl d).2.2):=⟨m.1.trans p,m.2.trans u,By _⟩;have v:=h3 d (Lj ..)
  have q:MK nm' cl' d (ED (B5 nm cl d).1 (B5 nm cl d).2.1 (B5 nm cl d).2.2 d):=by
   refine⟨(B5 nm cl d).2.2,?_,z.c,(Ym k.1 k.2 J).symm⟩;intro t V ht
   have s:∀(n:B8) (ts:List B8),GD (B5 nm cl d) n ts->ts.length<=3->t∈ts->t∈(B5 nm cl d).2.2:=by
    intro n ts y h3 Y;obtain⟨i,Q,e⟩:=J1 Y h3;have:=(y.t i Q).1 (by rw[e];exact V)
    rwa [e]at this
   rcases ht with ht|⟨l,f,ht⟩
   ·exact s _ _ k.1 v.1 ht
   ·exact s _ _ (k.2 l f) (v.2 l f) ht
  have g:∀(n:B8) (ts:List B8),GD (B5 nm cl d) n ts->n∈nm'/\∀i,i<3->Bo (AO ts i)=false->AO ts i∈cl':=by intro n ts y;have:=y.mono J;exact⟨this.n,fun i Q e=>(this.t i Q).2 e⟩
  refine⟨?_,?_,?_⟩
  ·intro x hx;rcases List.mem_cons.1 hx with rfl|hx
   ·exact⟨d,Lj ..,q⟩
   ·obtain⟨o,j,h⟩:=U x hx;exact⟨o,E4 _ j,h⟩
  ·intro x hx;rcases List.mem_cons.1 hx with rfl|hx
   ·exact⟨_,Lj ..,q⟩
   ·obtain⟨o,j,h⟩:=G x hx;exact⟨o,E4 _ j,h⟩
  ·intro x hx;rcases List.mem_cons.1 hx with rfl|hx
   ·exact⟨g _ _ k.1,fun l f=>g _ _ (k.2 l f)⟩
   ·exact B x hx
end
section
attribute [local go_sem] AE As
open Go.RowKit Go.WideMaps Go.Maps
variable [DecidableEq R3] [DecidableEq A4]
def UC(o:DK):Prop:=o=(0,0)\/o.1=1\/o.1=5
structure GW(w:World)(own:Bu)(base vb:Nat)(vs:List B8)(mv lv:Value):Prop where
 al:Aw w vb [mv,lv] 178
 set:Cu w base mv lv vs
 ob:own vb=some (5,0)
 et:D6 own (5,0) mv
 ep:D6 own (5,0) lv
theorem GW.only{P:Nat->Prop}{w w':World}{own own':Bu}{base vb n:Nat}{vs:List B8}{mv lv:Value}(h:GW w own base vb vs mv lv)(y:A3 P w w')(z:EM n own own')(j:∀q,own q=some (5,0)->¬P q):GW w' own' base vb vs mv lv:=
 ⟨h.al.only y (j _ h.ob),h.set.only y (fun q hq=>j q (h.ep q (.inr hq))) (fun q hq=>j q (h.et q (.inl hq))),z.br _ _ h.ob,h.et.ext z,h.ep.ext z⟩
theorem GW.below{w w':World}{own:Bu}{base vb:Nat}{vs:List B8}{mv lv:Value}(h:GW w own base vb vs mv lv)(hb:Below w.heap.size w w'):GW w' own base vb vs mv lv:=
 h.only (P:=fun _=>False) (A3.ab hb) (.refl 0 own) (fun _ _ e=>e)
section
variable {w w':World} {own:Bu} {base tb:Nat} {V:TV} {D:TD} {qs:List A4} {S:List A1} {sz:Nat}
theorem Fi.fs(h:Fi w own base tb V D qs S sz){v l':Value}{g:List B8}(m:Aw w' tb [D.m0,D.m1,v,l',V.cm,V.cl,D.ru,V.qm,V.ql,V.li,.int .i64 (sz:Nat)] 218)(hS:Cu w' base v l' g)(d:Cs w w' tb V.nm V.nl v l'):
 Fi w' (Dt own (1,0) v l') base tb ⟨v,l',V.cm,V.cl,V.qm,V.ql,V.li⟩ ⟨D.m0,D.m1,D.ru,g,D.ae,D.rules⟩ qs S sz/\Im own base w w' (0,0) (1,0) v l':=by
 have y:=Gx h.ok d h.ot (fun s e=>by simp at e) h.dv h.du hS.shape hS.lt
 have u:A3 (fun q=>q=tb\/own q=some (1,0)) w w':=d.only.mono (by
  rintro q (e|e|e)
  ·exact .inl e
  ·exact .inr (h.dv q (.inl e))
  ·exact .inr (h.du q (.inr e)))
 have f:=fun(o:DK) (hn:o≠(0,0)) (b:o≠(1,0)) q (e:own q=some o)=>(by
  rintro(j|j)
  ·rw[j,h.ot]at e
   injection e with e
   exact hn e.symm
  ·rw[e]at j
   injection j with j
   exact b j:¬(q=tb\/own q=some (1,0)))
 have z:=fun q (hn:q≠tb) (e:own q=some (0,0))=>(by
  rintro(j|j)
  ·exact hn j
  ·rw[e]at j
   simp at j:¬(q=tb\/own q=some (1,0)))
 refine⟨⟨y.ok,m,hS,h.ae.only u (fun q hq=>f (1,1) (by simp) (by simp) q (h.dr q (.inr hq))) (fun q hq=>f (1,1) (by simp) (by simp) q (h.dt q (.inl hq))),BI h.rules u (fun q hq=>f (1,2) (by simp) (by simp) q (h.dd q (.inr hq))),h.qs.only u (fun q hq=>z q (fun e=>Av h.qs.1 h.al (by decide) (e▸hq)) (h.ee q (.inr hq))) (fun q hq=>z q (fun e=>?_) (h.ef q (.inl hq))),BI h.list u (fun q hq=>z q (fun e=>Av h.list h.al (by decide) (e▸hq)) (h.dy q (.inr hq))),y.ext.br _ _ h.ot,h.ef.ext y.ext,h.ee.ext y.ext,h.dy.ext y.ext,y.om,y.ol,h.dt.ext y.ext,h.dr.ext y.ext,h.dd.ext y.ext,?_⟩,y⟩
 ·rcases h.qs.2.2 with⟨j,_⟩|⟨r,D,j,_,x,_⟩
  ·rw[j]at hq;simp[AN]at hq
  ·rw[j]at hq;simp only[AN,Al]at hq;exact E9 x h.al (by omega)
 ·intro i t ht;obtain⟨ru,mv,lv,n⟩:=h.cz i t ht;exact⟨ru,mv,lv,n.only u y.ext (fun q k p c=>f (k,i) (by rcases p with rfl|rfl<;>simp) (by rcases p with rfl|rfl<;>simp) q c)⟩
theorem Fi.fq(h:Fi w own base tb V D qs S sz){v l':Value}{g:List B8}(m:Aw w' tb [D.m0,D.m1,V.nm,V.nl,v,l',D.ru,V.qm,V.ql,V.li,.int .i64 (sz:Nat)] 218)(hS:Cu w' base v l' g)(d:Cs w w' tb V.cm V.cl v l'):
 Fi w' (Dt own (1,1) v l') base tb ⟨V.nm,V.nl,v,l',V.qm,V.ql,V.li⟩ ⟨D.m0,D.m1,D.ru,D.names,g,D.rules⟩ qs S sz/\Im own base w w' (0,0) (1,1) v l':=by
 have y:=Gx h.ok d h.ot (fun s e=>by simp at e) h.dt h.dr hS.shape hS.lt
 have u:A3 (fun q=>q=tb\/own q=some (1,1)) w w':=d.only.mono (by
  rintro q (e|e|e)
  ·exact .inl e
  ·exact .inr (h.dt q (.inl e))
  ·exact .inr (h.dr q (.inr e)))
 have f:=fun(o:DK) (hn:o≠(0,0)) (b:o≠(1,1)) q (e:own q=some o)=>(by
  rintro(j|j)
  ·rw[j,h.ot]at e
   injection e with e
   exact hn e.symm
  ·rw[e]at j
   injection j with j
   exact b j:¬(q=tb\/own q=some (1,1)))
 have z:=fun q (hn:q≠tb) (e:own q=some (0,0))=>(by
  rintro(j|j)
  ·exact hn j
  ·rw[e]at j
   simp at j:¬(q=tb\/own q=some (1,1)))
 refine⟨⟨y.ok,m,h.names.only u (fun q hq=>f (1,0) (by simp) (by simp) q (h.du q (.inr hq))) (fun q hq=>f (1,0) (by simp) (by simp) q (h.dv q (.inl hq))),hS,BI h.rules u (fun q hq=>f (1,2) (by simp) (by simp) q (h.dd q (.inr hq))),h.qs.only u (fun q hq=>z q (fun e=>Av h.qs.1 h.al (by decide) (e▸hq)) (h.ee q (.inr hq))) (fun q hq=>z q (fun e=>?_) (h.ef q (.inl hq))),BI h.list u (fun q hq=>z q (fun e=>Av h.list h.al (by decide) (e▸hq)) (h.dy q (.inr hq))),y.ext.br _ _ h.ot,h.ef.ext y.ext,h.ee.ext y.ext,h.dy.ext y.ext,h.dv.ext y.ext,h.du.ext y.ext,y.om,y.ol,h.dd.ext y.ext,?_⟩,y⟩
 ·rcases h.qs.2.2 with⟨j,_⟩|⟨r,D,j,_,x,_⟩
  ·rw[j]at hq;simp[AN]at hq
  ·rw[j]at hq;simp only[AN,Al]at hq;exact E9 x h.al (by omega)
 ·intro i t ht;obtain⟨ru,mv,lv,n⟩:=h.cz i t ht;exact⟨ru,mv,lv,n.only u y.ext (fun q k p c=>f (k,i) (by rcases p with rfl|rfl<;>simp) (by rcases p with rfl|rfl<;>simp) q c)⟩
end
theorem K7{w:World}{own:Bu}{base tb vb:Nat}{V:TV}{D:TD}{qs:List A4}{S:List A1}{sz:Nat}{vs:List B8}{mv lv:Value}(h:Fi w own base tb V D qs S sz)(z:GW w own base vb vs mv lv)(k:B8)(t:k.length<=maxLen)(hn:D.ae.length<=1000000000000)(d:vs.length<=1000000000000):
 Calls prog 177 #[.pointer (some ⟨tb,2,none⟩),.string (bs k),.pointer (some ⟨vb,0,none⟩)] w fun e w'=>∃(own':Bu) (r:TV) (y lv':Value),e=.returned (.int .i64 (Ev (BN (D.ae,vs) k).1 (BN (D.ae,vs) k).2 k))/\
  Fi w' own' base tb r ⟨D.m0,D.m1,D.ru,D.names,(BN (D.ae,vs) k).1,D.rules⟩ qs S sz/\GW w' own' base vb (BN (D.ae,vs) k).2 y lv'/\BX UC own w own' w':=by
 cases hvk:Bo k with
 |true=>
  have u:BN (D.ae,vs) k=(D.ae,CO vs k):=by unfold BN;rw[Ai hvk]
  rw[u,Kz hvk];refine(Yl w base vb 0 _ 178 mv lv vs k z.al rfl rfl z.set t d (by decide) h.ok.base hvk tb 2).mono ?_;rintro e w' ⟨rfl,y,lv',g,hS,hF⟩;have j:=Gx h.ok hF z.ob (fun s e=>by simp at e) z.et z.ep hS.shape hS.lt;refine⟨_,V,y,lv',rfl,h.only j.same j.ext j.ok ?_,⟨g,hS,j.ext.br _ _ z.ob,j.om,j.ol⟩,BX.add j (.inr (.inr rfl)) (.inr (.inr rfl))⟩;intro q o e _ b v;rw[e]at v
  injection v with v
  subst v;exact b rfl
 |false=>
  have u:BN (D.ae,vs) k=(CO D.ae k,vs):=by unfold BN;rw[Af (by simp[hvk])]
  rw[u,IC hvk];refine(TX w base tb 2 _ 218 V.cm V.cl D.ae k h.al rfl rfl h.ae t hn (by decide) h.ok.base hvk _).mono ?_;rintro e w' ⟨rfl,m',l',g,hS,hF⟩;obtain⟨p,j⟩:=h.fq g hS hF;refine⟨_,_,mv,lv,rfl,p,z.only j.only j.ext (fun q e=>?_),BX.add j (.inl rfl) (.inr (.inl rfl))⟩;rw[e];simp
end
section
attribute [local go_sem] AE As
open Go.RowKit Go.WideMaps Go.Maps
variable [DecidableEq R3] [DecidableEq A4]
theorem gH(a b c:ByteArray)(w:World):(Instr.index 78 (.agg #[.string a,.string b,.string c]) (.int .i64 0)).run prog w=.ok (.string a) w:=by kernel_rfl
theorem gG(a b c:ByteArray)(w:World):(Instr.index 78 (.agg #[.string a,.string b,.string c]) (.int .i64 1)).run prog w=.ok (.string b) w:=by kernel_rfl
theorem gF(a b c:ByteArray)(w:World):(Instr.index 78 (.agg #[.string a,.string b,.string c]) (.int .i64 2)).run prog w=.ok (.string c) w:=by kernel_rfl
def PZ(x:List B8×List B8)(ts:List B8):Nat->List B8×List B8
 |0=>x
 |1=>BN x (AO ts 0)
 |2=>BN (BN x (AO ts 0)) (AO ts 1)
 |_=>NU x ts
def FW(x:List B8×List B8)(ts:List B8)(j:Nat):Int:=Ev (PZ x ts (j+1)).1 (PZ x ts (j+1)).2 (AO ts j)
def RP(x:List B8×List B8)(ts:List B8)(p:Nat)(i:Nat):List Value:=[.int .i64 (p:Nat),.int .i64 (if 0<i then FW x ts 0 else 0),.int .i64 (if 1<i then FW x ts 1 else 0),.int .i64 (if 2<i then FW x ts 2 else 0)]
theorem Xv(x:List B8×List B8)(ts:List B8)(i:Nat)(q:i<=3):(PZ x ts i).1.length<=x.1.length+3/\(PZ x ts i).2.length<=x.2.length+3:=by
 have h1:=Hm x (AO ts 0);have h2:=Hm (BN x (AO ts 0)) (AO ts 1);have h3:=Hm (BN (BN x (AO ts 0)) (AO ts 1)) (AO ts 2)
 match i,q with
 |0,_=>exact⟨by show x.1.length<=_;omega,by show x.2.length<=_;omega⟩
 |1,_=>exact⟨by show(BN x (AO ts 0)).1.length<=_;omega,by show(BN x (AO ts 0)).2.length<=_;omega⟩
 |2,_=>exact⟨by show(BN (BN x (AO ts 0)) (AO ts 1)).1.length<=_;omega,by show(BN (BN x (AO ts 0)) (AO ts 1)).2.length<=_;omega⟩
 |3,_=>exact⟨by show(BN (BN (BN x (AO ts 0)) (AO ts 1)) (AO ts 2)).1.length<=_;omega,by show(BN (BN (BN x (AO ts 0)) (AO ts 1)) (AO ts 2)).2.length<=_;omega⟩
 |_+4,h=>omega
theorem K8{w:World}{own:Bu}{base tb vb:Nat}{V:TV}{D:TD}{qs:List A4}{S:List A1}{sz:Nat}{vs:List B8}{mv lv:Value}(h:Fi w own base tb V D qs S sz)(hv:GW w own base vb vs mv lv)(n:B8)(ts:List B8)(I:Int)(hn:n.length<=12)(ht:∀i,(AO ts i).length<=12)(hc:D.ae.length<=100000)(z4:D.names.length<=100000)(z7:vs.length<=100000):
 Calls prog 150 #[.pointer (some ⟨tb,2,none⟩),.agg #[.string (bs n),.int .i64 I,.string (bs (AO ts 0)),.string (bs (AO ts 1)),.string (bs (AO ts 2))],.pointer (some ⟨vb,0,none⟩)] w fun e w'=>∃(own':Bu) (V':TV) (z2 lv':Value),e=.returned (.agg (CQ (CX (CY (D.names,D.ae,vs) n ts).1 (CY (D.names,D.ae,vs) n ts).2.1 (CY (D.names,D.ae,vs) n ts).2.2 n ts)).toArray)/\
  Fi w' own' base tb V' ⟨D.m0,D.m1,D.ru,(CY (D.names,D.ae,vs) n ts).1,(CY (D.names,D.ae,vs) n ts).2.1,D.rules⟩ qs S sz/\GW w' own' base vb (CY (D.names,D.ae,vs) n ts).2.2 z2 lv'/\BX UC own w own' w':=by
 go_enter func150,ntmps150;go_wp2_with fail;have A:Below w.heap.size w ((w.alloc (.cells #[.string (bs n),.int .i64 I,.string (bs (AO ts 0)),.string (bs (AO ts 1)),.string (bs (AO ts 2))] 80)).alloc (.cells #[.int .i64 0,.int .i64 0,.int .i64 0,.int .i64 0] 223)).drew:=(((Ag w.heap.size w).alloc (Ab _) _).alloc (by simp) _).drew;have H:Aw ((w.alloc (.cells #[.string (bs n),.int .i64 I,.string (bs (AO ts 0)),.string (bs (AO ts 1)),.string (bs (AO ts 2))] 80)).alloc (.cells #[.int .i64 0,.int .i64 0,.int .i64 0,.int .i64 0] 223)).drew w.heap.size [.string (bs n),.int .i64 I,.string (bs (AO ts 0)),.string (bs (AO ts 1)),.string (bs (AO ts 2))] 80:=((Aw.new w _ _).alloc _).drew;have q1:Aw ((w.alloc (.cells #[.string (bs n),.int .i64 I,.string (bs (AO ts 0)),.string (bs (AO ts 1)),.string (bs (AO ts 2))] 80)).alloc (.cells #[.int .i64 0,.int .i64 0,.int .i64 0,.int .i64 0] 223)).drew (w.heap.size+1) [.int .i64 0,.int .i64 0,.int .i64 0,.int .i64 0] 223:=by have:=Aw.new (w.alloc (.cells #[.string (bs n),.int .i64 I,.string (bs (AO ts 0)),.string (bs (AO ts 1)),.string (bs (AO ts 2))] 80)) [.int .i64 0,.int .i64 0,.int .i64 0,.int .i64 0] 223;simp only[C8]at this;exact this
 have r:∀q,w.heap.size<=q->own q=none:=by
  intro q hq
  cases e:own q with
  |none=>rfl
  |some o=>exact absurd (h.ok.lt _ o e).2 (by omega)
 have Z:=h.below A;have j2:=hv.below A;have HA:=Ao (R0 _ base tb 2 _ 218 V.nm V.nl D.names n Z.al rfl rfl Z.names (by unfold maxLen;omega) (by omega) (by decide) Z.ok.base);obtain⟨p,HP⟩:∃p:Nat,Hid (p=Ci (CO D.names n) n):=⟨_,rfl⟩;rw[<-HP.out]at HA
 go_cut [7] from 8 to 37 (fun x wx=>x=.int .i64 (p:Nat)/\∃own1 V1,Fi wx own1 base tb V1 ⟨D.m0,D.m1,D.ru,CO D.names n,D.ae,D.rules⟩ qs S sz/\GW wx own1 base vb vs mv lv/\BX UC own w own1 wx/\Aw wx w.heap.size [.string (bs n),.int .i64 I,.string (bs (AO ts 0)),.string (bs (AO ts 1)),.string (bs (AO ts 2))] 80/\Aw wx (w.heap.size+1) [.int .i64 0,.int .i64 0,.int .i64 0,.int .i64 0] 223/\own1 w.heap.size=none/\own1 (w.heap.size+1)=none)
 case first=>as_aux_lemma=>
  have z5:=h.al.lt
  go_region_with (go_at_call 107;refine(HA.out).mono ?_;rintro e w1 ⟨rfl,m',l',j5,j7,j6⟩)
  all_goals go_wp2_with fail
  all_goals go_meet
  all_goals
   obtain⟨B,ha⟩:=Z.fs j5 j7 j6;have t:=BX.add (X:=UC) ha (.inl rfl) (.inr (.inl rfl));refine⟨rfl,_,_,B,j2.only ha.only ha.ext (fun q e=>by rw[e];simp),(BX.below A).trans t,H.aw t (r _ (Ab _)),q1.aw t (r _ (by omega)),t.none H.lt (r _ (Ab _)),t.none q1.lt (r _ (by omega))⟩
 case rest=>
  clear HA H q1 Z j2 A;obtain⟨rfl,own1,V1,B,j3,t,Y,q2,z0,j1⟩:=hcut;obtain⟨w1,z1⟩:∃x:World,x=wc:=⟨wc,rfl⟩;subst z1;have j9:=Y.lt;have P:=q2.lt;have c2:w1.cell? ⟨w.heap.size,2,none⟩=some (.string (bs (AO ts 0))):=Y.cell 2;have c3:w1.cell? ⟨w.heap.size,3,none⟩=some (.string (bs (AO ts 1))):=Y.cell 3;have c4:w1.cell? ⟨w.heap.size,4,none⟩=some (.string (bs (AO ts 2))):=Y.cell 4;have q7:=Aw.new w1 (RP (D.ae,vs) ts p 0) 223;have U:Below w1.heap.size w1 (w1.alloc (.cells (RP (D.ae,vs) ts p 0).toArray 223)):=Ac w1 _
  have q8:own1 w1.heap.size=none:=by
   cases e:own1 w1.heap.size with
   |none=>rfl
   |some o=>exact absurd (B.ok.lt _ o e).2 (by omega)
  have i0:=gH (bs (AO ts 0)) (bs (AO ts 1)) (bs (AO ts 2));have i1:=gG (bs (AO ts 0)) (bs (AO ts 1)) (bs (AO ts 2));have i2:=gF (bs (AO ts 0)) (bs (AO ts 1)) (bs (AO ts 2));obtain⟨K,HK⟩:∃K,Hid (K=w1.heap.size):=⟨_,rfl⟩;go_wp2_with fail;rw[<-HK.out]
  go_loopw [25] (fun iv wr=>∃(i:Nat) (y:Bu) (V2:TV) (q6 q5:Value),i<=3/\iv=.int .i64 i/\Fi wr y base tb V2 ⟨D.m0,D.m1,D.ru,CO D.names n,(PZ (D.ae,vs) ts i).1,D.rules⟩ qs S sz/\GW wr y base vb (PZ (D.ae,vs) ts i).2 q6 q5/\BX UC own w y wr/\Aw wr K (RP (D.ae,vs) ts p i) 223/\Aw wr (w.heap.size+1) [.int .i64 0,.int .i64 0,.int .i64 0,.int .i64 0] 223/\y K=none/\y (w.heap.size+1)=none) (fun iv _=>3-(intOf iv).toNat)
  case atStart=>exact⟨0,own1,V1,mv,lv,by omega,rfl,B.below U,j3.below U,t.bm U,by rw[HK.out];exact q7,q2.below U,by rw[HK.out];exact q8,j1⟩
  case round=>
   have W:K≠w.heap.size+1:=by rw[HK.out];omega
   have q0:w.heap.size<=K:=by rw[HK.out];exact t.only.size
   clear q7 U q8 B j3 t Y q2 j9 P c2 c3 c4 z0 j1 HK;obtain⟨i,y,V2,q6,q5,hi,rfl,R,O,f,m,g,J,Q⟩:=hrel;have j0:=Xv (D.ae,vs) ts i hi;simp only at j0;have q4:=m.lt;have P:=g.lt;by_cases z3:i<3
   ·rcases(show i=0\/i=1\/i=2 by omega) with Z|Z|Z
    ·as_aux_lemma=>
     subst Z;rw[show((0:Nat):Int)=0 from rfl]at*;have HC:=Ao (K7 R O (AO ts 0) (Ay (ht 0) (by unfold maxLen;omega)) (by simp only;omega) (by omega));go_wp2_with (go_at_call 177;refine(HC.out).mono ?_;rintro e w3 ⟨own3,V3,E,N,rfl,s,M,j⟩;have z:=m.aw j J;have G:=g.aw j Q;have l:=j.none q4 J;have C:=j.none P Q;have q9:=z.lt;have fK:=z.frozen;have k0:w3.cell? ⟨K,1,none⟩=some (.int .i64 0):=z.cell 1);have u:A3 (fun q=>q=K) w3 (w3.setCell ⟨K,1,none⟩ (.int .i64 (FW (D.ae,vs) ts 0))):=(A3.ab (S:=fun q=>q=K) (Ag _ _)).setCell (p:=⟨K,1,none⟩) (.inl rfl) _;have k:∀q o,own3 q=some o->¬q=K:=fun q o e L=>by rw[L,l]at e;cases e
     refine⟨⟨1,own3,V3,E,N,by omega,rfl,s.only u (.refl 0 _) (s.ok.below (by simp[World.setCell])) (fun q o e _ _=>k q o e),M.only u (.refl 0 _) (fun q e=>k q _ e),?_,?_,G.setOther ⟨K,1,none⟩ _ (FG W),l,C⟩,by simp[intOf]⟩
     ·exact⟨(f.trans j).only.setCell (p:=⟨K,1,none⟩) (.inr q0) _,(f.trans j).ext⟩
     ·exact z.setCell 1 _
    ·as_aux_lemma=>
     subst Z;rw[show((1:Nat):Int)=1 from rfl]at*;have HC:=Ao (K7 R O (AO ts 1) (Ay (ht 1) (by unfold maxLen;omega)) (by simp only;omega) (by omega));go_wp2_with (go_at_call 177;refine(HC.out).mono ?_;rintro e w3 ⟨own3,V3,E,N,rfl,s,M,j⟩;have z:=m.aw j J;have G:=g.aw j Q;have l:=j.none q4 J;have C:=j.none P Q;have q9:=z.lt;have fK:=z.frozen;have k0:w3.cell? ⟨K,2,none⟩=some (.int .i64 0):=z.cell 2);have u:A3 (fun q=>q=K) w3 (w3.setCell ⟨K,2,none⟩ (.int .i64 (FW (D.ae,vs) ts 1))):=(A3.ab (S:=fun q=>q=K) (Ag _ _)).setCell (p:=⟨K,2,none⟩) (.inl rfl) _;have k:∀q o,own3 q=some o->¬q=K:=fun q o e L=>by rw[L,l]at e;cases e
     refine⟨⟨2,own3,V3,E,N,by omega,rfl,s.only u (.refl 0 _) (s.ok.below (by simp[World.setCell])) (fun q o e _ _=>k q o e),M.only u (.refl 0 _) (fun q e=>k q _ e),?_,?_,G.setOther ⟨K,2,none⟩ _ (FG W),l,C⟩,by simp[intOf]⟩
     ·exact⟨(f.trans j).only.setCell (p:=⟨K,2,none⟩) (.inr q0) _,(f.trans j).ext⟩
     ·exact z.setCell 2 _
    ·as_aux_lemma=>
     subst Z;rw[show((2:Nat):Int)=2 from rfl]at*;have HC:=Ao (K7 R O (AO ts 2) (Ay (ht 2) (by unfold maxLen;omega)) (by simp only;omega) (by omega));go_wp2_with (go_at_call 177;refine(HC.out).mono ?_;rintro e w3 ⟨own3,V3,E,N,rfl,s,M,j⟩;have z:=m.aw j J;have G:=g.aw j Q;have l:=j.none q4 J;have C:=j.none P Q;have q9:=z.lt;have fK:=z.frozen;have k0:w3.cell? ⟨K,3,none⟩=some (.int .i64 0):=z.cell 3);have u:A3 (fun q=>q=K) w3 (w3.setCell ⟨K,3,none⟩ (.int .i64 (FW (D.ae,vs) ts 2))):=(A3.ab (S:=fun q=>q=K) (Ag _ _)).setCell (p:=⟨K,3,none⟩) (.inl rfl) _;have k:∀q o,own3 q=some o->¬q=K:=fun q o e L=>by rw[L,l]at e;cases e
     refine⟨⟨3,own3,V3,E,N,by omega,rfl,s.only u (.refl 0 _) (s.ok.below (by simp[World.setCell])) (fun q o e _ _=>k q o e),M.only u (.refl 0 _) (fun q e=>k q _ e),?_,?_,G.setOther ⟨K,3,none⟩ _ (FG W),l,C⟩,by simp[intOf]⟩
     ·exact⟨(f.trans j).only.setCell (p:=⟨K,3,none⟩) (.inr q0) _,(f.trans j).ext⟩
     ·exact z.setCell 3 _
   ·have j8:i=3:=by omega
    subst j8;rw[show((3:Nat):Int)=3 from rfl]at*;have k0:wr.cell? ⟨K,0,none⟩=some (.int .i64 (p:Nat)):=m.cell 0;have k1:wr.cell? ⟨K,1,none⟩=some (.int .i64 (FW (D.ae,vs) ts 0)):=m.cell 1;have k2:wr.cell? ⟨K,2,none⟩=some (.int .i64 (FW (D.ae,vs) ts 1)):=m.cell 2;have k3:wr.cell? ⟨K,3,none⟩=some (.int .i64 (FW (D.ae,vs) ts 2)):=m.cell 3;have fO:=g.frozen;have o0:wr.cell? ⟨w.heap.size+1,0,none⟩=some (.int .i64 0):=g.cell 0;have o1:wr.cell? ⟨w.heap.size+1,1,none⟩=some (.int .i64 0):=g.cell 1;have o2:wr.cell? ⟨w.heap.size+1,2,none⟩=some (.int .i64 0):=g.cell 2;have o3:wr.cell? ⟨w.heap.size+1,3,none⟩=some (.int .i64 0):=g.cell 3;have q3:=Xu (D.ae,vs) ts;have u:∀a b c d:Value,A3 (fun q=>q=w.heap.size+1) wr ((((wr.setCell ⟨w.heap.size+1,0,none⟩ a).setCell ⟨w.heap.size+1,1,none⟩ b).setCell ⟨w.heap.size+1,2,none⟩ c).setCell ⟨w.heap.size+1,3,none⟩ d):=fun a b c d=>((((A3.ab (S:=fun q=>q=w.heap.size+1) (Ag _ _)).setCell (p:=⟨w.heap.size+1,0,none⟩) (.inl rfl) _).setCell (p:=⟨w.heap.size+1,1,none⟩) (.inl rfl) _).setCell (p:=⟨w.heap.size+1,2,none⟩) (.inl rfl) _).setCell (p:=⟨w.heap.size+1,3,none⟩) (.inl rfl) _;have k:∀q o,y q=some o->¬q=w.heap.size+1:=fun q o e L=>by rw[L,Q]at e;cases e
    have j4:(CQ (CX (CY (D.names,D.ae,vs) n ts).1 (CY (D.names,D.ae,vs) n ts).2.1 (CY (D.names,D.ae,vs) n ts).2.2 n ts))=[.int .i64 (p:Nat),.int .i64 (FW (D.ae,vs) ts 0),.int .i64 (FW (D.ae,vs) ts 1),.int .i64 (FW (D.ae,vs) ts 2)]:=by unfold CQ CX;rw[show KV (CY (D.names,D.ae,vs) n ts).2.1 (CY (D.names,D.ae,vs) n ts).2.2 ts=KV (NU (D.ae,vs) ts).1 (NU (D.ae,vs) ts).2 ts from rfl,q3,HP.out];rfl
    go_wp2_with fail;refine Aq (v:=.agg #[.int .i64 (p:Nat),.int .i64 (FW (D.ae,vs) ts 0),.int .i64 (FW (D.ae,vs) ts 1),.int .i64 (FW (D.ae,vs) ts 2)]) (by simp[results,results150,go_sem,o0,o1,o2,o3]) rfl ?_;refine⟨y,V2,q6,q5,by rw[j4],R.only (u _ _ _ _) (.refl 0 _) (R.ok.below (by simp[World.setCell])) (fun q o e _ _=>k q o e),O.only (u _ _ _ _) (.refl 0 _) (fun q e=>k q _ e),⟨?_,f.ext⟩⟩;exact(((f.only.setCell (p:=⟨w.heap.size+1,0,none⟩) (.inr (by show w.heap.size<=w.heap.size+1;omega)) _).setCell (p:=⟨w.heap.size+1,1,none⟩) (.inr (by show w.heap.size<=w.heap.size+1;omega)) _).setCell (p:=⟨w.heap.size+1,2,none⟩) (.inr (by show w.heap.size<=w.heap.size+1;omega)) _).setCell (p:=⟨w.heap.size+1,3,none⟩) (.inr (by show w.heap.size<=w.heap.size+1;omega)) _
def zU:List Value:=[.int .i64 0,.int .i64 0,.int .i64 0,.int .i64 0,.int .i64 0,.int .i64 0,.int .i64 0,.int .i64 0,.int .i64 0,.int .i64 0,.int .i64 0,.int .i64 0,.int .i64 0,.int .i64 0,.int .i64 0,.int .i64 0,.int .i64 0,.int .i64 0,.int .i64 0,.int .i64 0,.int .i64 0,.int .i64 0]
theorem Ru:(prog.info? 226).map (fun i=>(i.zero,i.size,i.bytes))=some (some (.agg zU.toArray),22,176):=by kernel_rfl
theorem jD(q:Dq):∀u∈AG q,u.oneCell'=true:=by intro u j;have:=Array.all_eq_true_iff_forall_mem.1 (Mk q) u (by simpa using j);exact this
theorem Fp{P:Program}{j:Array Oper}{rest:List Oper}{o:Oper}{a:Act}{w0:World}{q:Array Value}{t:TypeId}{Q:Exit->Act->World->Prop}(z:o.guard=none)(ty:TypeId)(x y:Operand)(u:o.op=.store ty x y)
 (cs:List Value)(hx:a.eval x=.pointer (some ⟨w0.heap.size,0,none⟩))(g:a.eval y=.agg cs.toArray)(v:(P.info? ty).map (fun i=>i.size)=some cs.toArray.size)(hold:q.size=cs.toArray.size)(h1:cs.toArray.all (fun x=>x.oneCell')=true)
 (h:∀w',Aw w' w0.heap.size cs t->Below w0.heap.size w0 w'->w'.heap.size=w0.heap.size+1->wpList P j Q rest (a.put o.dst undef) w'):wpList P j Q (o::rest) a (w0.alloc (.cells q t)):=by
 have k:(w0.alloc (.cells q t)).heap[w0.heap.size]? =some (.cells q t (0,0)):=heap_alloc_new w0 _;refine D7 z ty x y u w0.heap.size cs.toArray hx g t q k v hold h1 (h _ ?_ ?_ (by simp))
 ·exact F7 _ _ _ _ _ _ k
 ·exact below_setRow (Ac w0 _) (Ab _) _
theorem jK(x:Dq):Instr.fill (fun i=>some (i*22,22)) ((Array.range (1*22)).map ((Value.agg zU.toArray).cells[· %(Value.agg zU.toArray).cells.size]!)) [(0,.agg (AG x).toArray)]=some (AG x).toArray:=by kernel_rfl
theorem Pm{z:Array Oper}{rest:List Oper}{o:Oper}{a:Act}{w:World}{Q:Exit->Act->World->Prop}(v:o.guard=none)(x:Operand)(u:o.op=.buildSlice 211 1 #[(0,x)])(q:Dq)(hx:a.eval x=.agg (AG q).toArray)
 (h:wpList prog z Q rest (a.put o.dst (.slice (some ⟨w.heap.size,0,none⟩) 1 1)) (w.alloc (.cells (AG q).toArray 226))):wpList prog z Q (o::rest) a w:=by
 obtain⟨g,y,k,j,q0⟩:=Bc Ru;refine wpList_buildSlice v 211 226 1 _ u (AG q).toArray g _ underlying211 y k (by rw[j];decide) (by rw[j];decide) ?_ h;have e:(#[(0,x)].map fun(i,x)=>(i,a.eval x)).toList=[(0,Value.agg (AG q).toArray)]:=by simp[hx]
 rw[e,j];exact jK q
theorem Wt{w:World}{base:Nat}{ao:Option Addr}{cap:Nat}{rules:List Dq}(h:w.ownsRow base 226 22 (.slice ao rules.length cap) rules.length (rules.flatMap AG))(i:Nat)(q:i<rules.length):∃g,ao=some ⟨g,0,none⟩/\g<w.heap.size/\w.rangeAt g (i*22) (AG rules[i]):=by
 rw[List.flatMap_def]at h;obtain⟨g,rfl,_,hc⟩:=E8 h (by intro r b;obtain⟨p,_,rfl⟩:=List.mem_map.1 b;rfl) (by simp) i q;have y:g<w.heap.size:=(h.lt g rfl).2;have e:(rules.map fun k=>AG k).getD i []=AG rules[i]:=by rw[Ap,Ba,Ar q];rfl
 rw[e]at hc;refine⟨g,rfl,y,fun j v z=>?_⟩;have u:j<22:=(List.getElem?_eq_some_iff.1 z).1;rw[<-z];exact hc j u
theorem World.rangeAt.below{w w':World}{B g o:Nat}{cs:List Value}(h:w.rangeAt g o cs)(hb:Below B w w')(q:g<B):w'.rangeAt g o cs:=fun j v z=>by rw[hb.cell (p:=⟨g,o+j,none⟩) q];exact h j v z
theorem Yk(rules:List Dq)(q:A4)(k:Nat)(j:k<rules.length):D5 (rules.take (k+1)) q=D5 (rules.take k) q++(if rules[k].h.n=q.n then FA rules[k] rules[k].h.r q.r else none).toList:=by unfold D5;rw[Ad j,List.filterMap_append];rw[List.filterMap_cons];cases(if rules[k].h.n=q.n then FA rules[k] rules[k].h.r q.r else none)<;>rfl
theorem mR(w:World)(base tb:Nat)(ao:Option Addr)(cap:Nat)(rules:List Dq)(q:A4)(c6:w.cell? ⟨tb,6,none⟩=some (.slice ao rules.length cap))(hr:w.ownsRow base 226 22 (.slice ao rules.length cap) rules.length (rules.flatMap AG))(hn:rules.length<=1000)(hw:∀r∈rules,r.Wf):
 Calls prog 219 #[.pointer (some ⟨tb,0,none⟩),.agg #[.int .i64 q.n,.int .i64 q.r.a,.int .i64 q.r.b,.int .i64 q.r.c]] w fun e w'=>∃v,e=.returned v/\w'.ownsRow w.heap.size 226 22 v (D5 rules q).length ((D5 rules q).flatMap AG)/\Below w.heap.size w w':=by
 have q9:=FX c6;have V:=Aw.new w (CQ q) 223;have K:=Ac w (.cells #[.int .i64 q.n,.int .i64 q.r.a,.int .i64 q.r.b,.int .i64 q.r.c] 223);obtain⟨i1,L,q1,q2,q3⟩:=Bc Ru;go_enter func219,ntmps219;go_wp2_with fail
 go_loopw [5,15] (fun v iv wr=>∃(k:Nat),k<=rules.length/\iv=.int .i64 k/\wr.ownsRow w.heap.size 226 22 v (D5 (rules.take k) q).length ((D5 (rules.take k) q).flatMap AG)/\(D5 (rules.take k) q).length<=k/\Aw wr w.heap.size (CQ q) 223/\Below w.heap.size w wr) (fun _ iv _=>rules.length-(intOf iv).toNat)
 case atStart=>exact⟨0,by omega,rfl,Ak _ _ _ _,by simp[D5],V,K⟩
 case round=>
  clear V K;obtain⟨k,hk,rfl,C,q5,X,Y⟩:=hrel;by_cases u:k<rules.length
  ·obtain⟨g,rfl,hg,hx⟩:=Wt hr k u;have P:=World.rangeAt.below hx Y hg;have d:=Ao (Yk rules q k u);have H:=(hw rules[k] (Aj u)).bj;generalize rules[k]=r at*;have q6:=X.lt;go_upto_region 5 with(first|(refine wpList_load_mid rfl 226 (.tmp 17) rfl g (k*22) rfl (AG r) _ P underlying226 rfl Et ?_)|(refine Fp rfl 226 (.tmp 7) (.tmp 18) rfl (AG r) rfl rfl Et rfl (Mk r) ?_;intro w1 p f q7));have j:=X.below f;have i:=Ah C f;have s:=Y.trans (f.mono Y.size);clear f X C Y P hx;generalize A:wr.heap.size=R at*;clear A wr;have z0:w1.cell? ⟨R,0,none⟩=some (.int .i64 r.h.n):=p.cell 0;have y0:w1.cell? ⟨w.heap.size,0,none⟩=some (.int .i64 q.n):=j.cell 0;by_cases o:r.h.n=q.n
   ·have hb:(r.h.n==q.n)=true:=by simpa using o
    have I:(r.h.n != q.n)=false:=by simp[o]
    rw[Ai o]at d;have z1:w1.cell? ⟨R,1,none⟩=some (.int .i64 r.h.r.a):=p.cell 1;have z2:w1.cell? ⟨R,2,none⟩=some (.int .i64 r.h.r.b):=p.cell 2;have z3:w1.cell? ⟨R,3,none⟩=some (.int .i64 r.h.r.c):=p.cell 3;have y1:w1.cell? ⟨w.heap.size,1,none⟩=some (.int .i64 q.r.a):=j.cell 1;have y2:w1.cell? ⟨w.heap.size,2,none⟩=some (.int .i64 q.r.b):=j.cell 2;have y3:w1.cell? ⟨w.heap.size,3,none⟩=some (.int .i64 q.r.c):=j.cell 3;clear o;go_upto_region 7 with(first|(refine CK rfl 226 (.tmp 7) rfl R rfl 226 (AG r).toArray (0,0) _ p underlying226 rfl Et ?_)|(go_at_call 228;refine(WI _ r r.h.r q.r H).mono ?_;rintro e w2 ⟨⟨x,rfl,W⟩,l⟩;have U:=j.below l;have Z:=Ah i l;have t:=s.trans (l.mono s.size))|(refine Fp rfl 226 (.tmp 8) (.tmp 33) rfl (AG x) rfl rfl Et rfl (Mk x) ?_;intro w3 O z q8));have J:=U.below z;have m:=Ah Z z;have Q:=t.trans (z.mono t.size);clear z U Z t j i s
    cases hfit:FA r r.h.r q.r with
    |none=>rw[hfit,Option.toList_none,BC]at d;go_wp2_with fail;exact⟨⟨k+1,u,by go_num,by rw[d.out];exact m,by rw[d.out];omega,J,Q⟩,by simp[intOf];omega⟩
    |some y=>
     have q0:=W y hfit;subst q0;rw[hfit,Option.toList_some]at d;go_wp2_with (first|(refine CK rfl 226 (.tmp 8) rfl w2.heap.size rfl 226 (AG x).toArray (0,0) _ O underlying226 rfl Et ?_)|(refine Pm rfl (.tmp 37) rfl x rfl ?_)|(refine Bv _ rfl (.tmp 36) (.tmp 38) 211 rfl w.heap.size 226 i1 _ 22 176 underlying211 L q1 q2 q3 rfl (by decide) _ _ _ rfl (m.alloc _) ⟨w3.heap.size,0,none⟩ 1 1 (AG x) rfl (by decide) rfl (AS w3 (AG x) 226) (jD x) (by unfold maxLen;omega) (by omega) (by have:=Q.size;simp;omega) ?_;intro g2 q4 w5 N G _));have M:Below w.heap.size w w5:=((((A3.ab (S:=fun _=>False) Q).alloc _).grown G (fun q hq=>.inr (m.lt q hq).1)).below (Ab _) (fun _ h=>h.elim));have E:=(J.alloc (.cells (AG x).toArray 226)).grown G (Av m J (by decide));refine⟨⟨k+1,u,by go_num,?_,?_,E,M⟩,by simp[intOf];omega⟩
     ·rw[d.out];simpa using N
     ·rw[d.out];simp;omega
   ·have hb:(r.h.n==q.n)=false:=by simpa using o
    have I:(r.h.n != q.n)=true:=by simp[o]
    rw[Af o]at d;clear o;go_wp2_with fail;rw[Option.toList_none,BC]at d;exact⟨⟨k+1,u,by go_num,by rw[d.out];exact i,by rw[d.out];omega,j,s⟩,by simp[intOf];omega⟩
  ·have B:k=rules.length:=by omega
   rw[B,AL]at C;clear B;go_wp2_with fail
   go_ret
   exact⟨_,rfl,C,Y⟩
end
section
def H7(x:W3):List BQ->List A4
 |[]=>[]
 |l::r=>CX (CY x l.name l.ts).1 (CY x l.name l.ts).2.1 (CY x l.name l.ts).2.2 l.name l.ts::H7 (CY x l.name l.ts) r
theorem Kt(x:W3)(L:List BQ):(H7 x L).length=L.length:=by
 induction L generalizing x with
 |nil=>rfl
 |cons l r q=>simp[H7,q]
theorem Vh(x:W3)(L:List BQ)(l:BQ):Ej x (L++[l])=CY (Ej x L) l.name l.ts:=by unfold Ej;rw[Dd];rfl
theorem Vi(x:W3)(L:List BQ)(l:BQ):H7 x (L++[l])=H7 x L++[CX (CY (Ej x L) l.name l.ts).1 (CY (Ej x L) l.name l.ts).2.1 (CY (Ej x L) l.name l.ts).2.2 l.name l.ts]:=by
 induction L generalizing x with
 |nil=>rfl
 |cons a r q=>show _::H7 _ (r++[l])=_::(H7 _ r++_);rw[q];rfl
theorem XR(x:W3)(L:List BQ)(i:Nat)(l:BQ)(h:L[i]? =some l):(H7 x L)[i]? =some (CX (Ej x L).1 (Ej x L).2.1 (Ej x L).2.2 l.name l.ts):=by
 induction L generalizing x i with
 |nil=>simp at h
 |cons a r q=>
  match i with
  |0=>
   injection h with h
   subst h;show some _=some _;congr 1;exact(KA (GS x a.name a.ts) (I2 (CY x a.name a.ts) r)).symm
  |i+1=>exact q (CY x a.name a.ts) i h
def Y3(h:A4)(xs:List A4)(pos:Nat):Dq:=⟨h,xs.getD 0 Pg,xs.getD 1 Pg,xs.getD 2 Pg,xs.getD 3 Pg,pos,xs.length⟩
theorem Xt(nm cl:List B8)(d:Bd):Y3 (CX (CY (nm,cl,[]) d.name d.ts).1 (CY (nm,cl,[]) d.name d.ts).2.1 (CY (nm,cl,[]) d.name d.ts).2.2 d.name d.ts) (H7 (CY (nm,cl,[]) d.name d.ts) d.sorted) (d.lits.filter (fun l=> !l.neg)).length=ED (B5 nm cl d).1 (B5 nm cl d).2.1 (B5 nm cl d).2.2 d:=by
 have q:∀i,(H7 (CY (nm,cl,[]) d.name d.ts) d.sorted).getD i Pg=Ig (B5 nm cl d).1 (B5 nm cl d).2.1 (B5 nm cl d).2.2 d.sorted i:=by
  intro i;unfold Ig;rw[Ap]
  cases e:d.sorted[i]? with
  |none=>rw[Di (by rw[Kt];exact List.getElem?_eq_none_iff.1 e)];rfl
  |some l=>rw[XR _ _ i l e];rfl
 have j:=KA (GS (nm,cl,[]) d.name d.ts) (I2 (CY (nm,cl,[]) d.name d.ts) d.sorted);unfold Y3 ED;rw[q,q,q,q,Kt,<-j];rfl
def Eu(L:List BQ):Bool->Nat->List BQ
 |false,k=>(L.take k).filter (fun l=> !l.neg)
 |true,k=>L.filter (fun l=> !l.neg)++(L.take k).filter (fun l=>l.neg)
theorem Qw(L:List BQ)(b:Bool)(k:Nat):(Eu L b k).length<=L.length:=by
 have q:∀(X:List BQ),(X.filter (fun l=> !l.neg)).length+(X.filter (fun l=>l.neg)).length=X.length:=by
  intro X
  induction X with
  |nil=>rfl
  |cons l r ih=>cases h:l.neg<;>simp[h]<;>omega
 have h1:=q L
 cases b with
 |false=>
  have:(L.take k).length<=L.length:=by simp;omega
  exact Ay (Jf _ _) this
 |true=>have h2:((L.take k).filter (fun l=>l.neg)).length<=(L.filter (fun l=>l.neg)).length:=(List.Sublist.filter _ (List.take_sublist k L)).length_le;show(L.filter (fun l=> !l.neg)++(L.take k).filter (fun l=>l.neg)).length<=_;rw[Am];omega
theorem VD(L:List BQ)(b:Bool)(k:Nat)(q:k<L.length):Eu L b (k+1)=if L[k].neg=b then Eu L b k++[L[k]] else Eu L b k:=by
 cases b with
 |false=>show(L.take (k+1)).filter _=_;rw[Ad q,Ip];cases h:L[k].neg<;>simp[h,Eu]
 |true=>show L.filter _++(L.take (k+1)).filter _=_;rw[Ad q,Ip];cases h:L[k].neg<;>simp[h,Eu]
theorem Hf.dw{M:Int->R3->Prop}{N C:Int}{S:List A1}(h:Hf M N C S){i:Nat}{t:A1}(ht:S[i]? =some t)(g:∀x,M t.q.n x->IN t.q.r x->x∈t.rows):Hf M N C (S.set i ⟨t.q,t.b,t.rows,true⟩):=by
 have k:t∈S:=AP ht
 have hq:(S.set i ⟨t.q,t.b,t.rows,true⟩).map A1.q=S.map A1.q:=by
  rw[YY];apply E5;intro j;rw[DM]
  split
  ·rename_i e;subst e;rw[Ba,ht];have:=(List.getElem?_eq_some_iff.1 ht).1;simp[this]
  ·rfl
 have y:∀u∈S.set i ⟨t.q,t.b,t.rows,true⟩,u∈S\/u=⟨t.q,t.b,t.rows,true⟩:=fun u z=>G3 z;refine⟨hq▸h.nodup,?_,?_,?_,?_,?_⟩
 ·intro u z;rcases y u z with z|rfl
  ·exact h.name u z
  ·exact h.name t k
 ·intro u z;rcases y u z with z|rfl
  ·exact h.cd u z
  ·exact h.cd t k
 ·intro u z;rcases y u z with z|rfl
  ·exact h.rows u z
  ·exact h.rows t k
 ·intro u z;rcases y u z with z|rfl
  ·exact h.sound u z
  ·exact h.sound t k
 ·intro u z v;rcases y u z with z|rfl
  ·exact h.full u z v
  ·exact g
theorem PW{S:List A1}{i:Nat}{t u:A1}(h:S[i]? =some t):BO (S.set i u)+t.rows.length=BO S+u.rows.length:=by
 unfold BO
 induction S generalizing i with
 |nil=>simp at h
 |cons x S q=>
  match i with
  |0=>
   injection h with h
   subst h;simp only[List.set_cons_zero,A6,List.sum_cons];omega
  |i+1=>have:=q (i:=i) h;simp only[List.set_cons_succ,A6,List.sum_cons];omega
theorem UM(S:List A1)(t:A1):BO (S++[t])=BO S+t.rows.length:=by unfold BO;simp
theorem Qd{S:List A1}{i:Nat}{t u:A1}(h:S[i]? =some t)(hq:u.q=t.q):(S.set i u).map A1.q=S.map A1.q:=by
 rw[YY];apply E5;intro j;rw[DM]
 split
 ·rename_i e;subst e;rw[Ba,h];have:=(List.getElem?_eq_some_iff.1 h).1;simp[this,hq]
 ·rfl
theorem TE{M:Int->R3->Prop}{N C:Int}{S:List A1}(h:Hf M N C S){t:A1}(ht:t∈S)(k:t.fin=true){a:A4}(hq:t.q=⟨a.n,a.r.kind⟩)(z:a.r.Ground):0<t.rows.length↔M a.n a.r:=by
 have u:∀x,IN t.q.r x->x=a.r:=by intro x hx;rw[hq]at hx;obtain⟨σ,b,rfl⟩:=I4.1 hx;exact R3.az b.fix z
 constructor
 ·intro g;obtain⟨x,hx⟩:=List.exists_mem_of_length_pos g;have hs:=h.sound t ht x hx;have e:=u x hs.2;subst e;have:=hs.1;rw[hq]at this;exact this
 ·intro y;have j:Ut (fun v=>if v<0 then 0 else v):=⟨fun c hc=>Af (by omega),fun v=>by show 0<=(if v<0 then 0 else v);split<;>omega⟩;have:=h.full t ht k a.r (by rw[hq];exact y) (by rw[hq];exact I4.2 ⟨_,j,R3.az j.fix z⟩);exact List.length_pos_of_mem this
theorem bA{M:Int->R3->Prop}{N C:Int}{S:List A1}(h:Hf M N C S){t:A1}(ht:t∈S)(j:t.fin=true){a:A4}(hq:t.q=⟨a.n,a.r.kind⟩):t.rows.Nodup/\∀x,x∈t.rows↔M a.n x/\IN a.r x:=by
 refine⟨h.rows t ht,fun x=>⟨fun hx=>?_,fun hx=>?_⟩⟩
 ·have hs:=h.sound t ht x hx;rw[hq]at hs;exact⟨hs.1,I4.1 hs.2⟩
 ·exact h.full t ht j x (by rw[hq];exact hx.1) (by rw[hq];exact I4.2 hx.2)
end
section
attribute [local go_sem] AE As
open Go.RowKit Go.WideMaps Go.Maps
variable [DecidableEq R3] [DecidableEq A4]
structure Nn(M:Int->R3->Prop)(lay:Int->Nat)(N C:Nat)(D:TD):Prop where
 st:MH D.rules M
 ro:KH lay N C D.rules
 li:nW N C
 nr:D.rules.length<=1000
def Tb(base tb:Nat)(D:TD)(w:World)(own:Bu)(S:List A1):Prop:=∃V,Fi w own base tb V D (S.map A1.q) S (BO S)
structure Sr(M:Int->R3->Prop)(lay:Int->Nat)(N C base tb:Nat)(D:TD)(sb l:Nat)(w:World)(own:Bu)(S:List A1)(nd:List Nat):Prop where
 t:Tb base tb D w own S
 s:∃mv lv,Lb w own base tb sb nd mv lv
 inv:Hf M N C S
 nn:nd.Nodup
 nd:∀i∈nd,∃t,S[i]? =some t/\lay t.q.n<=l
structure YQ(N C:Nat)(a:A4):Prop where
 n:0<=a.n/\a.n<N
 r:∀y,a.r.Has y->y<C
theorem YQ.kind{N C:Nat}{a:A4}(h:YQ N C a):∀y,a.r.kind.Has y-> -3<=y/\y<C:=by
 intro y q;rcases Z2 q with⟨h1,h2⟩|⟨h1,h2⟩
 ·omega
 ·exact⟨by omega,h.r y h2⟩
theorem YQ.wf{N C:Nat}{a:A4}(h:YQ N C a)(q:nW N C):(A4.mk a.n a.r.kind).Wf:=by have hn:=q.n;have hc:=q.c;have k:=h.kind;have k0:=k _ (.inl rfl);have k1:=k _ (.inr (.inl rfl));have k2:=k _ (.inr (.inr rfl));have:=h.n;exact⟨⟨by show _<=a.n;omega,by show a.n<=_;omega⟩,⟨⟨by show _<=a.r.kind.a;omega,by show a.r.kind.a<=_;omega⟩,⟨by show _<=a.r.kind.b;omega,by show a.r.kind.b<=_;omega⟩,⟨by show _<=a.r.kind.c;omega,by show a.r.kind.c<=_;omega⟩⟩⟩
def JQ:Prop:=∀(w:World) (base tb:Nat) (ao:Option Addr) (cap:Nat) (rules:List Dq) (q:A4),w.cell? ⟨tb,6,none⟩=some (.slice ao rules.length cap)->w.ownsRow base 226 22 (.slice ao rules.length cap) rules.length (rules.flatMap AG)->rules.length<=1000->(∀r∈rules,r.Wf)->
 Calls prog 219 #[.pointer (some ⟨tb,0,none⟩),.agg #[.int .i64 q.n,.int .i64 q.r.a,.int .i64 q.r.b,.int .i64 q.r.c]] w fun e w'=>∃v,e=.returned v/\w'.ownsRow w.heap.size 226 22 v (D5 rules q).length ((D5 rules q).flatMap AG)/\Below w.heap.size w w'
theorem kN:(prog.info? 258).map (fun i=>(i.zero,i.size,i.bytes))=some (some (.pointer none),1,8):=by kernel_rfl
theorem mD{S:List A1}{q:A4}(h:q∈S.map A1.q):∃t,S[Ci (S.map A1.q) q]? =some t/\t.q=q:=by
 unfold Ci;rw[Ai h];have j:=List.idxOf_lt_length_iff.2 h;have h1:(S.map A1.q)[(S.map A1.q).idxOf q]? =some q:=by rw[Ar j];simp
 rw[Ba]at h1;obtain⟨t,h2,h3⟩:=Option.map_eq_some_iff.1 h1;exact⟨t,h2,h3⟩
theorem Xe(hcut:JQ){M:Int->R3->Prop}{lay:Int->Nat}{N C base tb:Nat}{D:TD}(hX:Nn M lay N C D)(w:World)(own:Bu)(S:List A1)(hT:Tb base tb D w own S)(hI:Hf M N C S)(a:A4)(ha:YQ N C a):
 Calls prog 198 #[.pointer (some ⟨tb,0,none⟩),.agg #[.int .i64 a.n,.int .i64 a.r.a,.int .i64 a.r.b,.int .i64 a.r.c]] w fun e w'=>∃(own':Bu) (S':List A1) (i:Nat) (t:A1),e=.returned (.int .i64 (i:Nat))/\Tb base tb D w' own' S'/\Hf M N C S'/\S'[i]? =some t/\t.q=⟨a.n,a.r.kind⟩/\Eh S S'/\BO S'=BO S/\BX Sf own w own' w':=by
 obtain⟨V,hT⟩:=hT;have q8:=Aw.new w (CQ a) 223;have H:=Ac w (.cells #[.int .i64 a.n,.int .i64 a.r.a,.int .i64 a.r.b,.int .i64 a.r.c] 223);go_enter func198,ntmps198;go_upto_region 2 with(go_at_call 217;refine(kL _ a.r).mono ?_;rintro e w1 ⟨rfl,W⟩;have Q:=q8.below W;have j3:=Q.frozen;have y0:w1.cell? ⟨w.heap.size,0,none⟩=some (.int .i64 a.n):=Q.cell 0;have y1:w1.cell? ⟨w.heap.size,1,none⟩=some (.int .i64 a.r.a):=Q.cell 1;have y2:w1.cell? ⟨w.heap.size,2,none⟩=some (.int .i64 a.r.b):=Q.cell 2;have y3:w1.cell? ⟨w.heap.size,3,none⟩=some (.int .i64 a.r.c):=Q.cell 3)
 have Y:Aw (((w1.setCell ⟨w.heap.size,1,none⟩ (.int .i64 a.r.kind.a)).setCell ⟨w.heap.size,2,none⟩ (.int .i64 a.r.kind.b)).setCell ⟨w.heap.size,3,none⟩ (.int .i64 a.r.kind.c)) w.heap.size (CQ ⟨a.n,a.r.kind⟩) 223:=((Q.setCell 1 _).setCell 2 _).setCell 3 _;have q4:Below w.heap.size w (((w1.setCell ⟨w.heap.size,1,none⟩ (.int .i64 a.r.kind.a)).setCell ⟨w.heap.size,2,none⟩ (.int .i64 a.r.kind.b)).setCell ⟨w.heap.size,3,none⟩ (.int .i64 a.r.kind.c)):=(((H.trans (W.mono H.size)).setCell (p:=⟨w.heap.size,1,none⟩) (Ab _) _).setCell (p:=⟨w.heap.size,2,none⟩) (Ab _) _).setCell (p:=⟨w.heap.size,3,none⟩) (Ab _) _;generalize (((w1.setCell ⟨w.heap.size,1,none⟩ (.int .i64 a.r.kind.a)).setCell ⟨w.heap.size,2,none⟩ (.int .i64 a.r.kind.b)).setCell ⟨w.heap.size,3,none⟩ (.int .i64 a.r.kind.c))=w2 at*;clear q8 H Q W j3 y0 y1 y2 y3 w1;have K:=hT.below q4;have k8:=FN hI;have y8:=ha.wf hX.li;have k4:=hX.li.q;have y0:w2.cell? ⟨w.heap.size,0,none⟩=some (.int .i64 a.n):=Y.cell 0;have y1:w2.cell? ⟨w.heap.size,1,none⟩=some (.int .i64 a.r.kind.a):=Y.cell 1;have y2:w2.cell? ⟨w.heap.size,2,none⟩=some (.int .i64 a.r.kind.b):=Y.cell 2;have y3:w2.cell? ⟨w.heap.size,3,none⟩=some (.int .i64 a.r.kind.c):=Y.cell 3;have k5:=Y.lt;have v0:=K.al.lt;have z5:=K.ok.base;have HA:=Ao (iM w2.drew base tb 7 _ 218 V.qm V.ql (S.map A1.q) ⟨a.n,a.r.kind⟩ (by exact K.al.drew) rfl rfl (by exact K.qs) y8 (by simp;omega) (by decide) (by exact z5));obtain⟨p,HP⟩:∃p:Nat,Hid (p=Ci (CO (S.map A1.q) ⟨a.n,a.r.kind⟩) ⟨a.n,a.r.kind⟩):=⟨_,rfl⟩;obtain⟨bb,HB⟩:∃b:Bool,Hid (b=decide (A4.mk a.n a.r.kind∉S.map A1.q)):=⟨_,rfl⟩;rw[<-HP.out,<-HB.out]at HA
 go_cut [5,6] from 7 to 34 (fun x y I=>x=.int .i64 (p:Nat)/\y=.bool bb/\∃d ql',Aw I tb [D.m0,D.m1,V.nm,V.nl,V.cm,V.cl,D.ru,d,ql',V.li,.int .i64 (BO S:Nat)] 218/\C1 I base d ql' (CO (S.map A1.q) ⟨a.n,a.r.kind⟩)/\Cs w2 I tb V.qm V.ql d ql')
 case first=>
  go_region_with (go_at_call 218;refine(HA.out).mono ?_;rintro e w3 ⟨rfl,d,ql',s,E,m⟩)
  all_goals go_wp2_with fail
  all_goals go_meet
  all_goals exact⟨rfl,rfl,d,ql',s,E,⟨⟨m.only.os,m.only.tape,m.only.output,m.only.size,m.only.block⟩,m.map,m.row⟩⟩
 case rest=>
  clear HA;obtain⟨rfl,rfl,d,ql',s,E,m⟩:=hcut;obtain⟨w3,y7⟩:∃x:World,x=wc:=⟨wc,rfl⟩;subst y7;obtain⟨z,q3⟩:=K.ft s E m K.apart
  have j7:own w.heap.size=none:=by
   cases e:own w.heap.size with
   |none=>rfl
   |some o=>exact absurd (hT.ok.lt _ o e).2 (by omega)
  have j0:BX Sf own w (Dt own (0,0) d ql') w3:=(BX.below q4).trans (BX.add q3 (.inl rfl) (.inl rfl));have B:=Y.only q3.same (by rw[j7];simp)
  cases bb with
  |false=>
   go_wp2_with fail
   go_ret
   have hm:A4.mk a.n a.r.kind∈S.map A1.q:=by have:=HB.out;simpa using this.symm
   have e1:CO (S.map A1.q) ⟨a.n,a.r.kind⟩=S.map A1.q:=by unfold CO;rw[Ai hm]
   rw[e1]at z HP;obtain⟨t,ht,hq⟩:=mD hm;rw[<-HP.out]at ht;exact⟨_,S,p,t,rfl,⟨_,z⟩,hI,ht,hq,.refl S,rfl,j0⟩
  |true=>
   have hm:A4.mk a.n a.r.kind∉S.map A1.q:=by have:=HB.out;simpa using this.symm
   have e1:CO (S.map A1.q) ⟨a.n,a.r.kind⟩=S.map A1.q++[⟨a.n,a.r.kind⟩]:=by unfold CO;rw[Af hm]
   have e2:p=S.length:=by have:=HP.out;rw[e1,Gd _ _ hm]at this;simpa using this
   rw[e1]at z;clear HP HB E e1;subst e2;obtain⟨ao,cap,q1⟩:=Au z.rules;obtain⟨lo,lc,f⟩:=Au z.list;simp only at q1 f;have c6:w3.cell? ⟨tb,6,none⟩=some (.slice ao D.rules.length cap):=by rw[s.cell 6,<-q1];rfl
   have c9:w3.cell? ⟨tb,9,none⟩=some (.slice lo S.length lc):=by rw[s.cell 9,<-f];rfl
   have HC:=Ao (hcut w3.drew base tb ao cap D.rules ⟨a.n,a.r.kind⟩ (by exact c6) (by have:=z.rules;simp only[q1]at this;exact this) hX.nr hX.ro.wf);obtain⟨i1,z7,k0,k1,k2⟩:=Bc kN;have k6:=s.lt;have k9:=B.lt;have z0:w3.cell? ⟨w.heap.size,0,none⟩=some (.int .i64 a.n):=B.cell 0;have z1:w3.cell? ⟨w.heap.size,1,none⟩=some (.int .i64 a.r.kind.a):=B.cell 1;have z2:w3.cell? ⟨w.heap.size,2,none⟩=some (.int .i64 a.r.kind.b):=B.cell 2;have z3:w3.cell? ⟨w.heap.size,3,none⟩=some (.int .i64 a.r.kind.c):=B.cell 3;go_upto_region 4 with fail
   go_cut [] from 7 to 34 (fun I=>∃(v l:Value) (U:Nat),w3.heap.size<=U/\Aw I U [v,.map none,.slice none 0 0,.bool false] 266/\I.ownsRow w3.heap.size 226 22 v (D5 D.rules ⟨a.n,a.r.kind⟩).length ((D5 D.rules ⟨a.n,a.r.kind⟩).flatMap AG)/\Aw I tb [D.m0,D.m1,V.nm,V.nl,V.cm,V.cl,D.ru,d,ql',l,.int .i64 (BO S:Nat)] 218/\
    I.ownsRow base 258 1 l (S.length+1) (S.map Sq++[.pointer (some ⟨U,0,none⟩)])/\(l.ownBlock=V.li.ownBlock\/∀q,l.ownBlock=some q->w3.heap.size<=q)/\A3 (fun q=>q=tb\/V.li.ownBlock=some q) w3 I)
   case first=>
    have j6:w3.ownsRow base 258 1 (.slice lo S.length lc) S.length (S.map Sq):=by have:=z.list;simp only[f]at this;exact this
    have k3:=z.ok.base
    go_region_law (first|(refine CP _ rfl (.tmp 24) (.tmp 30) 216 rfl base 258 i1 _ 1 8 underlying216 z7 k0 k1 k2 rfl (by decide) (.slice lo S.length lc) S.length (S.map Sq) (by simp[Act.eval]) P ⟨w4.heap.size+1,0,none⟩ 1 1 [.pointer (some ⟨w4.heap.size,0,none⟩)] (by simp[Act.eval]) (by decide) rfl q0 j1 (by unfold maxLen;omega) (by omega) z4 ?_;intro g L w6 q5 h y9;have R:=G.grown h (Av P G (by decide));have f6:=R.frozen;have g9:w6.cell? ⟨tb,9,none⟩=some V.li:=R.cell 9)|(go_simp;go_wp2_with (go_at_call 219;refine(HC.out).mono ?_;rintro e w4 ⟨v,rfl,j2,j4⟩;obtain⟨A,O,rfl⟩:=Au j2;have J:Below w3.heap.size w3 w4:=(Ag w3.heap.size w3).drew.trans j4;have Z:=s.below J;have d9:w4.cell? ⟨tb,9,none⟩=some (.slice lo S.length lc):=((Z.cell 9).trans (s.cell 9).symm).trans c9;have y5:=J.size;have k7:=Z.lt;have f9:=Z.frozen;have P:=((Ah j6 J).alloc (.cells #[.slice A (D5 D.rules ⟨a.n,a.r.kind⟩).length O,.map none,.slice none 0 0,.bool false] 266)).alloc (.cells #[.pointer (some ⟨w4.heap.size,0,none⟩)] 258);have G:=(Z.alloc (.cells #[.slice A (D5 D.rules ⟨a.n,a.r.kind⟩).length O,.map none,.slice none 0 0,.bool false] 266)).alloc (.cells #[.pointer (some ⟨w4.heap.size,0,none⟩)] 258);have q0:∀j u,[Value.pointer (some ⟨w4.heap.size,0,none⟩)][j]? =some u->((w4.alloc (.cells #[.slice A (D5 D.rules ⟨a.n,a.r.kind⟩).length O,.map none,.slice none 0 0,.bool false] 266)).alloc (.cells #[.pointer (some ⟨w4.heap.size,0,none⟩)] 258)).cell? ((⟨w4.heap.size+1,0,none⟩:Addr).add j)=some u:=(by have:=AS (w4.alloc (.cells #[.slice A (D5 D.rules ⟨a.n,a.r.kind⟩).length O,.map none,.slice none 0 0,.bool false] 266)) [Value.pointer (some ⟨w4.heap.size,0,none⟩)] 258;simpa using this);have j1:∀u∈[Value.pointer (some ⟨w4.heap.size,0,none⟩)],u.oneCell'=true:=(by intro u hu;simp at hu;subst hu;rfl);have z4:base<=((w4.alloc (.cells #[.slice A (D5 D.rules ⟨a.n,a.r.kind⟩).length O,.map none,.slice none 0 0,.bool false] 266)).alloc (.cells #[.pointer (some ⟨w4.heap.size,0,none⟩)] 258)).heap.size:=(by simp;omega))))
    all_goals go_wp2_with fail
    all_goals go_meet
    all_goals
     have O5:A3 (fun q=>q=tb\/V.li.ownBlock=some q) ((w4.alloc (.cells #[.slice A (D5 D.rules ⟨a.n,a.r.kind⟩).length O,.map none,.slice none 0 0,.bool false] 266)).alloc (.cells #[.pointer (some ⟨w4.heap.size,0,none⟩)] 258)) (w6.setCell ⟨tb,9,none⟩ (.slice (some ⟨g,0,none⟩) (S.length+1) L)):=((A3.ab (Ag _ _)).grown h (fun q hq=>.inl (.inr (by rw[f];exact hq)))).setCell (p:=⟨tb,9,none⟩) (.inl (.inl rfl)) _;have q2:=(j2.alloc (.cells #[.slice A (D5 D.rules ⟨a.n,a.r.kind⟩).length O,.map none,.slice none 0 0,.bool false] 266)).alloc (.cells #[.pointer (some ⟨w4.heap.size,0,none⟩)] 258);have q6:=(Aw.new w4 [.slice A (D5 D.rules ⟨a.n,a.r.kind⟩).length O,.map none,.slice none 0 0,.bool false] 266).alloc (.cells #[.pointer (some ⟨w4.heap.size,0,none⟩)] 258);refine⟨.slice A (D5 D.rules ⟨a.n,a.r.kind⟩).length O,.slice (some ⟨g,0,none⟩) (S.length+1) L,w4.heap.size,y5,q6.only O5 ?_,BI q2 O5 ?_,R.setCell 9 _,AJ q5 ⟨tb,9,none⟩ _ (Av q5 R (by decide)),?_,?_⟩
     ·rintro(e|e)
      ·omega
      ·rw[f]at e;exact Av P q6 (by decide) e
     ·intro q hq;rintro(e|e)
      ·exact Av q2 G (by decide) (e▸hq)
      ·rw[f]at e;rcases Em q2 P (by decide) with h1|h1
       ·rw[h1]at hq;cases hq
       ·exact h1 (hq.trans e.symm)
     ·rcases y9 with h1|h1
      ·left
       rw[f,<-h1];rfl
      ·right
       intro q hq;simp[Value.ownBlock]at hq;simp at h1;omega
     ·exact((((A3.ab J).alloc _).alloc _).grown h (fun q hq=>.inl (.inr (by rw[f];exact hq)))).setCell (p:=⟨tb,9,none⟩) (.inl (.inl rfl)) _
   case rest=>
    obtain⟨v,l,U,z9,X,hv,j8,hL,z8,hO⟩:=hcut
    have hP:=Zy (k:=S.length) (v:=v) (li:=l) z.ok hO.size ⟨z9,X.lt⟩ (fun q hq=>hv.lt q hq) (Hz hv) (Av hv X (by decide)) (fun q hq=>hL.lt q hq) (Hz hL) (fun q hq=>by
     rcases z8 with e|e
     ·exact .inl (z.dy q (.inr (e▸hq)))
     ·exact .inr (e q hq)) (fun q hq=>⟨fun e=>Av hL X (by decide) (e▸hq),fun e=>by
      rcases Em hv hL (by decide) with h1|h1
      ·rw[h1]at e;cases e
      ·exact h1 (e.trans hq.symm)⟩)
    have q7:A3 (fun q=>Dt own (0,0) d ql' q=some (0,0)) w3 wc:=hO.mono (by
     rintro q (e|e)
     ·rw[e];exact z.ot
     ·exact z.dy q (.inr e))
    have y4:=z.qs.only hO (fun q hq=>by
     rintro(e|e)
     ·exact Av z.qs.1 z.al (by decide) (e▸hq)
     ·exact(z.apart q e).2 hq) (fun q hq=>by
     rintro(e|e)
     ·rcases z.qs.2.2 with⟨e',_⟩|⟨r,D,e',_,hw,_⟩
      ·rw[e']at hq;simp[AN]at hq
      ·rw[e']at hq;simp only[AN,Al]at hq;exact E9 hw z.al (by omega)
     ·exact(z.apart q e).1 hq)
    have y6:wc.ownsRow base 226 22 v (D5 D.rules ⟨a.n,a.r.kind⟩).length ((D5 D.rules ⟨a.n,a.r.kind⟩).flatMap AG):=BS hv z.ok.base;have q9:=z.push (u:=⟨⟨a.n,a.r.kind⟩,U,[],false⟩) j8 (by rw[A8];exact hL) q7 y4 hP.ext hP.ok hP.ol (ru:=v) (mv:=.map none) (lv:=.slice none 0 0) ⟨X,y6,Dv.nil _ _,hP.ob,hP.ov,D6.bw _ _,D6.bh _ _⟩;go_wp2_with fail
    go_ret
    have j5:=hI.new U hm (by simpa using ha.n) ha.kind;have j9:BX Sf (Dt own (0,0) d ql') w3 (EZ (Dt own (0,0) d ql') S.length U v l) wc:=⟨q7.mono (fun q e=>⟨_,e,.inl rfl⟩),hP.ext⟩;have hz:BO (S++[⟨⟨a.n,a.r.kind⟩,U,[],false⟩])=BO S:=UM _ _;rw[show S.map A1.q++[(⟨a.n,a.r.kind⟩:A4)]=(S++[A1.mk ⟨a.n,a.r.kind⟩ U [] false]).map A1.q by rw[A8];rfl,<-hz]at q9;exact⟨EZ (Dt own (0,0) d ql') S.length U v l,S++[⟨⟨a.n,a.r.kind⟩,U,[],false⟩],S.length,rfl,⟨_,q9⟩,j5,⟨⟨a.n,a.r.kind⟩,U,[],false⟩,by simp,rfl,Eh.snoc _ _,hz,j0.trans j9⟩
structure dG(M:Int->R3->Prop)(lay:Int->Nat)(N C base tb:Nat)(D:TD)(sb l:Nat)(w:World)(own:Bu)(S:List A1)(nd:List Nat)(a:A4)(w':World)(own':Bu)(S':List A1)(nd':List Nat)(i:Nat)(t:A1):Prop where
 sr:Sr M lay N C base tb D sb l w' own' S' nd'
 ht:S'[i]? =some t
 hq:t.q=⟨a.n,a.r.kind⟩
 fin:t.fin=true\/i∈nd'
 grow:Eh S S'
 size:BO S'=BO S
 sub:nd<+:nd'
 aw:BX (Ch sb) own w own' w'
theorem Sr.below{M:Int->R3->Prop}{lay:Int->Nat}{N C base tb:Nat}{D:TD}{sb l:Nat}{w w':World}{own:Bu}{S:List A1}{nd:List Nat}(h:Sr M lay N C base tb D sb l w own S nd)(hb:Below w.heap.size w w'):Sr M lay N C base tb D sb l w' own S nd:=by obtain⟨V,q⟩:=h.t;obtain⟨mv,lv,hs⟩:=h.s;exact⟨⟨V,q.below hb⟩,⟨mv,lv,hs.below hb⟩,h.inv,h.nn,h.nd⟩
theorem Fi.dq{w:World}{own:Bu}{base tb:Nat}{V:TV}{D:TD}{qs:List A4}{S:List A1}{sz:Nat}(h:Fi w own base tb V D qs S sz){i:Nat}{t:A1}(ht:S[i]? =some t):∃g cap,V.li=.slice (some ⟨g,0,none⟩) S.length cap/\w.cell? ⟨g,i,none⟩=some (.pointer (some ⟨t.b,0,none⟩))/\g<w.heap.size/\w.cell? ⟨tb,9,none⟩=some (.slice (some ⟨g,0,none⟩) S.length cap):=by
 have hi:i<S.length:=(List.getElem?_eq_some_iff.1 ht).1;obtain⟨ao,cap,e⟩:=Au h.list;have q:=h.list;rw[e]at q;have j:w.cell? ⟨tb,9,none⟩=some V.li:=h.al.cell 9;rw[e]at j
 cases ao with
 |none=>
  rcases q.2 with⟨_,h0⟩|⟨g,c,cur,h1,_⟩
  ·omega
  ·cases h1
 |some p=>
  rcases q.2 with⟨h1,_⟩|⟨g,c,cur,h1,_⟩
  ·cases h1
  ·injection h1 with h1 h2 h3
   injection h1 with h1
   subst h1;refine⟨g,cap,e,?_,(q.lt g rfl).2,j⟩;rw[q.cellAt i (by omega),Ba,ht];rfl
theorem ZM(hcut:JQ){M:Int->R3->Prop}{lay:Int->Nat}{N C base tb:Nat}{D:TD}(L:Nn M lay N C D){sb l:Nat}(w:World)(own:Bu)(S:List A1)(nd:List Nat)(h:Sr M lay N C base tb D sb l w own S nd)(a:A4)(ha:YQ N C a)(hl:lay a.n<=l):
 Calls prog 174 #[.pointer (some ⟨sb,0,none⟩),.agg #[.int .i64 a.n,.int .i64 a.r.a,.int .i64 a.r.b,.int .i64 a.r.c]] w fun e w'=>∃(own':Bu) (S':List A1) (nd':List Nat) (i:Nat) (t:A1),e=.returned (.pointer (some ⟨t.b,0,none⟩))/\dG M lay N C base tb D sb l w own S nd a w' own' S' nd' i t:=by
 have d:Below w.heap.size w (w.alloc (.cells #[.int .i64 a.n,.int .i64 a.r.a,.int .i64 a.r.b,.int .i64 a.r.c] 223)).drew:=(Ac w _).drew;obtain⟨mv,lv,hs⟩:=h.s;obtain⟨V,hT⟩:=h.t;have s0:w.cell? ⟨sb,0,none⟩=some (.pointer (some ⟨tb,0,none⟩)):=hs.al.cell 0;have q7:=hs.al.lt;have O:=Ao (Xe hcut L _ own S ⟨V,hT.below d⟩ h.inv a ha);have q5:=hs.below d;go_enter func174,ntmps174;go_wp2_with fail
 go_cut [5] from 7 to 33 (fun x W=>∃(i:Nat) (own1:Bu) (S1:List A1) (t:A1),x=.int .i64 (i:Nat)/\Tb base tb D W own1 S1/\Hf M N C S1/\S1[i]? =some t/\t.q=⟨a.n,a.r.kind⟩/\Eh S S1/\BO S1=BO S/\BX Sf own w own1 W)
 case first=>
  go_region_with (go_at_call 198;refine(O.out).mono ?_;rintro e w1 ⟨own1,S1,i,t,rfl,g1,g2,g3,g4,g5,g6,g7⟩)
  all_goals go_wp2_with fail
  all_goals go_meet
  all_goals exact⟨i,own1,S1,t,rfl,g1,g2,g3,g4,g5,g6,(BX.below d).trans g7⟩
 case rest=>
  clear O;obtain⟨i,own1,S1,t,rfl,⟨I,z⟩,p,ht,hq,o,H,hW⟩:=hcut;obtain⟨w1,X⟩:∃x:World,x=wc:=⟨wc,rfl⟩;subst X;have y:=hs.aw hW (Wy sb);obtain⟨g,cap,q2,gl,q1,g9⟩:=z.dq ht;obtain⟨ru,tm,tl,k⟩:=z.cz i t ht;have hi:i<S1.length:=(List.getElem?_eq_some_iff.1 ht).1;have d0:w1.cell? ⟨sb,0,none⟩=some (.pointer (some ⟨tb,0,none⟩)):=y.al.cell 0;have d3:w1.cell? ⟨t.b,3,none⟩=some (.bool t.fin):=k.al.cell 3;have q3:=FN p;have q0:=L.li.q;have q8:=z.al.lt;have q6:=y.al.lt;have q9:=k.al.lt;have K:=z.ok.base
  have q4:nd.length<=S1.length:=by
   have:=h.nn.length_le_of_subset (l₂:=List.range S1.length) (by
    intro j m;obtain⟨u,B,_⟩:=h.nd j m;have:=(List.getElem?_eq_some_iff.1 B).1;have:=o.len
    exact List.mem_range.2 (by omega))
   simpa using this
  have HA:=Ao (iL w1 base sb 1 _ 292 mv lv nd i (by exact y.al) rfl rfl (by exact y.set) (by omega) (by omega) (by decide) (by exact K));have v:∀j∈nd,∃u,S1[j]? =some u/\lay u.q.n<=l:=by intro j m;obtain⟨u,B,P⟩:=h.nd j m;obtain⟨u',R,U⟩:=o.at' j u B;exact⟨u',R,by rw[U.q];exact P⟩
  obtain⟨fb,A⟩:∃b:Bool,Hid (b=t.fin):=⟨_,rfl⟩;rw[<-A.out]at d3
  cases fb with
  |true=>
   go_wp2_with fail
   go_ret
   exact⟨own1,S1,nd,i,t,rfl,⟨⟨⟨I,z⟩,⟨mv,lv,y⟩,p,h.nn,v⟩,ht,hq,.inl A.out.symm,o,H,By _,hW.mono (Sf.ch sb)⟩⟩
  |false=>
   go_wp2_with (go_at_call 199;refine(HA.out).mono ?_;rintro e w2 ⟨rfl,E,lv',Q,Z,J⟩)
   go_ret
   obtain⟨G,f⟩:=y.add z.ok Q Z J;have Y:=z.fw f;refine⟨_,S1,CO nd i,i,t,rfl,⟨⟨⟨I,Y⟩,⟨E,lv',G⟩,p,JB h.nn i,?_⟩,ht,hq,.inr (LW nd i),o,H,LV nd i,(hW.mono (Sf.ch sb)).trans (BX.add f (.inr (.inr rfl)) (.inr (.inr rfl)))⟩⟩;intro j m;rcases cZ m with m|rfl
   ·exact v j m
   ·exact⟨t,ht,by rw[hq];exact hl⟩
structure jB(M:Int->R3->Prop)(lay:Int->Nat)(N C base tb:Nat)(D:TD)(sb l:Nat)(w:World)(own:Bu)(S:List A1)(nd:List Nat)(g:Nat)(x:R3)(w':World)(own':Bu)(S':List A1):Prop where
 sr:Sr M lay N C base tb D sb l w' own' S' nd
 inn:∃t,S'[g]? =some t/\x∈t.rows
 grow:Eh S S'
 aw:BX (Ch sb) own w own' w'
theorem Zn{S:List A1}{g:Nat}{t:A1}(h:S[g]? =some t):S.set g t=S:=by obtain⟨h1,h2⟩:=List.getElem?_eq_some_iff.1 h;rw[<-h2,Dh]
theorem mW{M:Int->R3->Prop}{lay:Int->Nat}{N C base tb:Nat}{D:TD}(f:Nn M lay N C D){sb l:Nat}(w:World)(own:Bu)(S:List A1)(nd:List Nat)(h:Sr M lay N C base tb D sb l w own S nd)(g:Nat)(t:A1)(ht:S[g]? =some t)(x:R3)(hM:M t.q.n x/\IN t.q.r x):
 Calls prog 221 #[.pointer (some ⟨sb,0,none⟩),.agg #[.int .i64 x.a,.int .i64 x.b,.int .i64 x.c],.pointer (some ⟨t.b,0,none⟩)] w fun e w'=>∃(own':Bu) (S':List A1),e=.returned (.tuple #[])/\jB M lay N C base tb D sb l w own S nd g x w' own' S':=by
 have Q:Below w.heap.size w (w.alloc (.cells #[.int .i64 x.a,.int .i64 x.b,.int .i64 x.c] 221)).drew:=(Ac w _).drew;obtain⟨mv,lv,hs⟩:=h.s;obtain⟨V,hT⟩:=h.t;have W:=hs.below Q;have U:=hT.below Q;obtain⟨ru,tm,tl,k⟩:=U.cz g t ht;have G:=EC f.st f.ro hM.1;have hc:=f.li.c;have x0:=G x.a (.inl rfl);have x1:=G x.b (.inr (.inl rfl));have x2:=G x.c (.inr (.inr rfl));have q5:x.Wf:=⟨⟨by omega,by omega⟩,⟨by omega,by omega⟩,⟨by omega,by omega⟩⟩;have q1:t∈S:=AP ht;have q9:=NS h.inv (fun n x h=>EC f.st f.ro h) q1;have q7:=f.li.r;have O:=Ao (iK _ base t.b 1 _ 266 tm tl t.rows x k.al rfl rfl k.rows q5 (by omega) (by decide) U.ok.base);obtain⟨p,HP⟩:∃p:Nat,Hid (p=Ci (CO t.rows x) x):=⟨_,rfl⟩;obtain⟨bb,I⟩:∃b:Bool,Hid (b=decide (x∉t.rows)):=⟨_,rfl⟩;rw[<-HP.out,<-I.out]at O;have j2:=hs.al.lt;have q0:=k.al.lt;simp at q0;go_enter func221,ntmps221;go_wp2_with fail
 go_cut [6,7] from 8 to 26 (fun y z wx=>y=.int .i64 (p:Nat)/\z=.bool bb/\∃d v,Aw wx t.b [ru,d,v,.bool t.fin] 266/\Dv wx base d v (CO t.rows x)/\Cs (w.alloc (.cells #[.int .i64 x.a,.int .i64 x.b,.int .i64 x.c] 221)).drew wx t.b tm tl d v)
 case first=>
  go_region_with (go_at_call 229;refine(O.out).mono ?_;rintro e w1 ⟨rfl,d,v,J,K,Z⟩)
  all_goals go_wp2_with fail
  all_goals go_meet
  all_goals exact⟨rfl,rfl,d,v,J,K,Z⟩
 case rest=>
  clear O;obtain⟨rfl,rfl,d,v,J,K,Z⟩:=hcut;obtain⟨w1,q4⟩:∃x:World,x=wc:=⟨wc,rfl⟩;subst q4;obtain⟨m,i⟩:=U.ew ht k J K Z k.apart;have X:BX (Ch sb) own w (Dt own (2,g) d v) w1:=(BX.below Q).trans (BX.add i (.inr (.inl rfl)) (.inr (.inl rfl)));have o:=W.only i.same i.ext (fun q e B=>by rw[e]at B;simp at B)
  cases bb with
  |false=>
   have E:x∈t.rows:=by have:=I.out;simpa using this.symm
   have L:CO t.rows x=t.rows:=by unfold CO;rw[Ai E]
   rw[L,Zn ht]at m;go_wp2_with fail
   go_end0
   exact⟨_,S,rfl,⟨⟨⟨V,m⟩,⟨mv,lv,o⟩,h.inv,h.nn,h.nd⟩,⟨t,ht,E⟩,.refl S,X⟩⟩
  |true=>
   have E:x∉t.rows:=by have:=I.out;simpa using this.symm
   have L:CO t.rows x=t.rows++[x]:=by unfold CO;rw[Af E]
   rw[L]at m;have hz:BO (S.set g ⟨t.q,t.b,t.rows++[x],t.fin⟩)=BO S+1:=by have:=PW (u:=⟨t.q,t.b,t.rows++[x],t.fin⟩) ht;simp at this;omega
   have R:=h.inv.add ht E hM;have j1:=SD R (fun n x h=>EC f.st f.ro h);have q8:=f.li.s;have d0:w1.cell? ⟨sb,0,none⟩=some (.pointer (some ⟨tb,0,none⟩)):=o.al.cell 0;have q6:w1.cell? ⟨tb,10,none⟩=some (.int .i64 (BO S:Nat)):=m.al.cell 10;have fT:=m.al.frozen;have j3:=m.al.lt;have j0:=o.al.lt;generalize BO S=z at*;obtain⟨P,Y⟩:=m.size (z+1);have A:=o.only Y (.refl 0 _) (fun q e B=>by rw[e]at B;simp at B);go_wp2_with fail
   go_end0
   rw[show((z:Int)+1)=((z+1:Nat):Int) by omega];rw[<-hz,<-Qd (u:=⟨t.q,t.b,t.rows++[x],t.fin⟩) ht rfl]at P;rw[<-hz]at A Y⊢;refine⟨Dt own (2,g) d v,S.set g ⟨t.q,t.b,t.rows++[x],t.fin⟩,rfl,⟨⟨⟨V,P⟩,⟨mv,lv,A⟩,R,h.nn,?_⟩,⟨⟨t.q,t.b,t.rows++[x],t.fin⟩,?_,by simp⟩,Eh.set ht ⟨rfl,rfl,Wm _ _,id⟩,X.trans (BX.one Y (.inl rfl))⟩⟩
   ·intro j hj;obtain⟨u,hu,q3⟩:=h.nd j hj;obtain⟨u',q2,H⟩:=(Eh.set (u:=⟨t.q,t.b,t.rows++[x],t.fin⟩) ht ⟨rfl,rfl,Wm _ _,id⟩).at' j u hu;exact⟨u',q2,by rw[H.q];exact q3⟩
   ·rw[CD (List.getElem?_eq_some_iff.1 ht).1]
structure iS(M:Int->R3->Prop)(N C base tb:Nat)(D:TD)(w:World)(own:Bu)(S:List A1)(a:A4)(w':World)(own':Bu)(S':List A1)(i:Nat)(t:A1):Prop where
 tb:Tb base tb D w' own' S'
 inv:Hf M N C S'
 ht:S'[i]? =some t
 hq:t.q=⟨a.n,a.r.kind⟩
 fin:t.fin=true
 grow:Eh S S'
 aw:BX Sf own w own' w'
def O7(M:Int->R3->Prop)(lay:Int->Nat)(N C base tb:Nat)(D:TD)(l:Nat):Prop:=∀(w:World) (own:Bu) (S:List A1) (a:A4),Tb base tb D w own S->Hf M N C S->YQ N C a->lay a.n<=l->
 Calls prog 149 #[.pointer (some ⟨tb,0,none⟩),.agg #[.int .i64 a.n,.int .i64 a.r.a,.int .i64 a.r.b,.int .i64 a.r.c]] w fun e w'=>∃(own':Bu) (S':List A1) (i:Nat) (t:A1),e=.returned (.pointer (some ⟨t.b,0,none⟩))/\iS M N C base tb D w own S a w' own' S' i t
theorem gJ{M:Int->R3->Prop}{lay:Int->Nat}{N C base tb:Nat}{D:TD}{l:Nat}(hF:O7 M lay N C base tb D l)(w:World)(own:Bu)(S:List A1)(a:A4)(y:Tb base tb D w own S)(v:Hf M N C S)(u:YQ N C a)(p:lay a.n<=l)(d:a.r.Ground):
 Calls prog 223 #[.pointer (some ⟨tb,0,none⟩),.agg #[.int .i64 a.n,.int .i64 a.r.a,.int .i64 a.r.b,.int .i64 a.r.c]] w fun e w'=>∃(b:Bool) (own':Bu) (S':List A1),e=.returned (.bool b)/\(b=true↔M a.n a.r)/\Tb base tb D w' own' S'/\Hf M N C S'/\Eh S S'/\BX Sf own w own' w':=by
 have z:=Ac w (.cells #[.int .i64 a.n,.int .i64 a.r.a,.int .i64 a.r.b,.int .i64 a.r.c] 223);obtain⟨V,y⟩:=y;go_enter func223,ntmps223;go_wp2_with (first|(go_at_call 149;refine(hF _ own S a ⟨V,y.below z⟩ v u p).mono ?_;rintro e w1 ⟨own1,S1,i,t,rfl,j⟩;obtain⟨V1,k⟩:=j.tb;obtain⟨ru,tm,m,q⟩:=k.cz i t j.ht;have q0:=q.al.lt)|(go_at_call 151;refine(Vm _ base t.b 1 tm m t.rows (q.al.cell 2) q.rows).mono ?_;rintro e w2 ⟨g,q1⟩;subst w2;subst g))
 go_ret
 refine⟨decide (0<t.rows.length),own1,S1,?_,?_,j.tb,j.inv,j.grow,(BX.below z).trans j.aw⟩
 ·rfl
 ·rw[BE];exact TE j.inv (AP j.ht) j.fin j.hq d
end
section
def RI(cl:List B8)(n:B8)(k:Nat)(x:R3):BA:=(n,[cl.getD x.a.toNat [],cl.getD x.b.toNat [],cl.getD x.c.toNat []].take k)
theorem Uu.ey{nm cl:List B8}{n:Int}{x:R3}{a:BA}(h:Uu nm cl n x a)(h3:a.2.length<=3):RI cl a.1 a.2.length x=a:=by
 obtain⟨an,ts⟩:=a;have q:cl.getD x.a.toNat []=AO ts 0:=by rw[Ap,h.t0];rfl
 have h1:cl.getD x.b.toNat []=AO ts 1:=by rw[Ap,h.t1];rfl
 have h2:cl.getD x.c.toNat []=AO ts 2:=by rw[Ap,h.t2];rfl
 unfold Proofs.YtpbfiffgcgnidaaGreatDoor.RI;rw[q,h1,h2];congr 1
 match ts,h3 with
 |[],_=>rfl
 |[_],_=>rfl
 |[_,_],_=>rfl
 |[_,_,_],_=>rfl
 |_::_::_::_::_,h3=>simp at h3
section
variable {ds:List Bd} {nm cl:List B8} {ar:B8->Nat} {M:BA->Prop}
theorem Ui(hS:FT ds M)(hC:ML ds nm cl ar){q:B8}{ats vs:List B8}(b:KW nm cl ar q ats)(p:∀t,Bo t=true->t∈ats->t∈vs){rows:List R3}(hn:rows.Nodup)(Q:∀x,x∈rows↔YU nm cl M (CX nm cl vs q ats).n x/\IN (CX nm cl vs q ats).r x):
 (rows.map (RI cl q ats.length)).Nodup/\∀h,h∈rows.map (RI cl q ats.length)↔M h/\∃s,h=(q,Ct s ats):=by
 have k:∀x∈rows,∃s,M (q,Ct s ats)/\Uu nm cl (CX nm cl vs q ats).n x (q,Ct s ats):=by intro x hx;obtain⟨⟨a,f,hd⟩,σ,u,rfl⟩:=(Q x).1 hx;obtain⟨e,_⟩:=Ka b u (Kx hS hC f) hd;exact⟨_,e▸f,e▸hd⟩
 have z:∀s,((q,Ct s ats):BA).2.length=ats.length:=fun s=>by simp[Ct]
 have j:∀x∈rows,∀s,Uu nm cl (CX nm cl vs q ats).n x (q,Ct s ats)->RI cl q ats.length x=(q,Ct s ats):=by
  intro x hx s hd;have:=hd.ey (by rw[z];exact b.len)
  rwa [z]at this
 refine⟨?_,fun h=>⟨fun Y=>?_,?_⟩⟩
 ·unfold List.Nodup;rw[IT];refine MN ?_ hn;intro x y hx J d e;obtain⟨s,_,h1⟩:=k x hx;obtain⟨s',_,h2⟩:=k y J;rw[j x hx s h1,j y J s' h2]at e;rw[<-e]at h2;exact d (h1.same hC.ndn hC.ndc h2).2
 ·obtain⟨x,hx,rfl⟩:=List.mem_map.1 Y;obtain⟨s,g,hd⟩:=k x hx;rw[j x hx s hd];exact⟨g,s,rfl⟩
 ·rintro⟨g,s,rfl⟩;have m:=LG hS hC g
  let σ:Int->Int:=fun v=>if v<0 then(Ci cl (s (vs.getD (-4-v).toNat [])):Nat) else v
  have u:Ut σ:=⟨fun c hc=>Af (by omega),fun v=>by
   show 0<=(if v<0 then((Ci cl (s (vs.getD (-4-v).toNat [])):Nat):Int) else v)
   split
   ·exact F0 _
   ·omega⟩
  have hd:Uu nm cl (CX nm cl vs q ats).n ((CX nm cl vs q ats).r.map σ) (q,Ct s ats):=by
   refine OD b u (fun i o=>?_)
   cases e:Bo (AO ats i) with
   |false=>exact IW u.fix s e (b.ae i o e)
   |true=>
    have K:=Ge vs _ (p _ e (GQ e));have l:=m.2 i o;rw[show((q,Ct s ats):BA).2=Ct s ats from rfl,GP,show IJ s (AO ats i)=s (AO ats i) by simp[IJ,e]]at l;unfold dB;rw[Kz e];have Z:σ (-4-(Ci vs (AO ats i):Nat))=(Ci cl (s (AO ats i)):Nat):=by show(if(-4-((Ci vs (AO ats i):Nat):Int))<0 then((Ci cl (s (vs.getD (-4-(-4-((Ci vs (AO ats i):Nat):Int))).toNat [])):Nat):Int) else _)=_;rw[Ai (by omega),show(-4-(-4-((Ci vs (AO ats i):Nat):Int))).toNat=Ci vs (AO ats i) by omega,Ap,K];rfl
    rw[Z,show IJ s (AO ats i)=s (AO ats i) by simp[IJ,e]];exact Ge cl _ l
  have hx:(CX nm cl vs q ats).r.map σ∈rows:=(Q _).2 ⟨⟨_,g,hd⟩,σ,u,rfl⟩;exact List.mem_map.2 ⟨_,hx,j _ hx s hd⟩
end
end
end Go.Proofs.YtpbfiffgcgnidaaGreatDoor
