import Derived.Test.YtpbfiffgcgnidaaGreatDoorYal
import Derived.Test.YtpbfiffgcgnidaaGreatDoorY22
import Derived.Test.YtpbfiffgcgnidaaGreatDoorY30
namespace Go.Proofs.YtpbfiffgcgnidaaGreatDoor
set_option maxRecDepth 100000
set_option maxHeartbeats 4000000
set_option linter.unusedSectionVars false
set_option linter.unusedSimpArgs false
open Go.Proofs.Tryz
section
theorem Xo(xs:List B8)(ns:List Nat)(done:List RA)(a:RA)(hS:YO xs ns done):YO (Jz (xs,ns) (a.name,a.ts.length)).1 (Jz (xs,ns) (a.name,a.ts.length)).2 (done++[a]):=by
 obtain⟨v,hS⟩:=hS;have b:=hS a.name;unfold Jz;cases hh:BZ xs a.name
 ·simp only[An,AM];have hn:=b.2 hh;have hx:a.name∉xs:=by simpa[BZ]using hh
  refine⟨by simp[v],?_⟩;intro k;by_cases y:k=a.name
  ·subst y;constructor
   ·intro _;rw[P9 xs _ hx,v,La done [] a hn];simp
   ·intro h;simp[BZ]at h
  ·have j:=hS k;constructor
   ·intro h
    have q:k∈xs:=by
     have:k∈xs++[a.name]:=by simpa[BZ]using h
     simpa[y]using this
    rw[Qa xs _ _ q];have g:CI xs k<ns.length:=by rw[CI,Ai q,<-v];exact List.idxOf_lt_length_iff.2 q
    have h1:=j.1 (by simpa[BZ]using q);have e:(ns++[a.ts.length]).getD (CI xs k) 0=ns.getD (CI xs k) 0:=by simp[Ap,AU g]
    rw[e];exact Ii _ _ _ _ h1
   ·intro h x z;rw[Bi,A7]at z;rcases z with u|rfl
    ·refine j.2 ?_ x u;have:k∉xs++[a.name]:=by simpa[BZ]using h
     have q:k∉xs:=fun e=>this (by simp[e]);simpa[BZ]using q
    ·exact fun e=>y e.symm
 ·simp only[Bk];refine⟨v,?_⟩;intro k;have j:=hS k;constructor
  ·intro h;exact Ii _ _ _ _ (j.1 h)
  ·intro h x z;rw[Bi,A7]at z;rcases z with u|rfl
   ·exact j.2 h x u
   ·intro e;rw[e]at hh;rw[hh]at h;simp at h
theorem eE(l done:List RA)(c:List B8×List Nat)(hS:YO c.1 c.2 done):YO (JM c (l.map fun a=>(a.name,a.ts.length))).1 (JM c (l.map fun a=>(a.name,a.ts.length))).2 (done++l):=by
 induction l generalizing done c with
 |nil=>simpa[JM]using hS
 |cons a l q=>have h1:=Xo c.1 c.2 done a hS;have h2:=q (done++[a]) (Jz c (a.name,a.ts.length)) h1;rw[Bm]at h2;exact h2
theorem eT(c:RC):c.d.a7=(c.head::c.body).map fun a=>(a.name,a.ts.length):=by unfold Bd.a7 Bd.atoms RC.d;simp[C6,RA.lit,Function.comp_def]
theorem XG(cs:List RC):(cs.map RC.d).flatMap Bd.a7=(A2 cs).map fun a=>(a.name,a.ts.length):=by
 unfold A2;rw[JC,Np];congr 1
 funext c
 exact eT c
theorem Xp(cs:List RC):YO (Cv (cs.map RC.d)).1 (Cv (cs.map RC.d)).2 (A2 cs):=by have h:=eE (A2 cs) [] ([],[]) ⟨rfl,fun k=>⟨fun h=>by simp[BZ]at h,fun _ a q=>by simp at q⟩⟩;rw[List.nil_append,<-XG]at h;exact h
def Qu(cs:List RC)(nm:B8)(n:Nat):Bool:= !BZ (Cv (cs.map RC.d)).1 nm||Y4 (Cv (cs.map RC.d)).2 (CI (Cv (cs.map RC.d)).1 nm)==(n:Int)
theorem aT(cs:List RC)(nm:B8)(n:Nat):Qu cs nm n=false↔(0<=Cz (A2 cs) nm/\Cz (A2 cs) nm≠(n:Int)):=by
 have hS:=(Xp cs).2 nm;unfold Qu;cases hh:BZ (Cv (cs.map RC.d)).1 nm
 ·have hn:=hS.2 hh
  have:Cz (A2 cs) nm= -1:=by
   unfold Cz;have:(A2 cs).find? (fun a=>decide (a.name=nm))=none:=by rw[FZ];intro x hx;simpa using hn x hx
   rw[this]
  rw[this];simp
 ·have h1:=hS.1 hh;rw[h1];show(false||_)=false↔_;rw[CJ,Az];constructor
  ·intro h;exact⟨by omega,h⟩
  ·intro h;exact h.2
theorem W6(ts:List RT)(i:Nat)(h:i≠0):IG i ts=Lib.joinTail [44] (ts.map RT.s):=by
 induction ts generalizing i with
 |nil=>rfl
 |cons t r q=>rw[IG,UI,Af h,q (i+1) (by omega)];rfl
theorem F1(a:RA)(hn:a.neg=false):a.shown=DI a.name (a.ts.map RT.s):=by
 unfold RA.shown RA.front DI;rw[hn];simp only[An,AM,AK]
 cases hts:a.ts with
 |nil=>simp[IG]
 |cons t r=>simp only[List.length_cons,Nat.succ_ne_zero,AM,IG,UI,Bk,A6];rw[W6 r 1 (by omega),Lib.join_cons];simp
theorem Xj(i:Nat)(a:RA):VU i a=F9 i a.lit:=by
 unfold VU F9 RA.lit;cases hn:a.neg
 ·rw[F1 a hn];by_cases q:i=0<;>simp[q]
 ·have e:a.shown=33::DI a.name (a.ts.map RT.s):=by have h2:=F1 { a with neg:=false } rfl;unfold RA.shown RA.front at h2⊢;rw[hn];simp only[Bk,An,AM]at h2⊢;rw[<-h2];simp
  rw[e];by_cases q:i=0<;>simp[q]
theorem UO(i:Nat)(b:List RA):I8 i b=Gm i (b.map RA.lit):=by
 induction b generalizing i with
 |nil=>rfl
 |cons a b q=>rw[I8,Xj,q];rfl
theorem Q0(c:RC)(hn:c.head.neg=false):c.shown=c.d.shown:=by unfold RC.shown Bd.shown;rw[F1 _ hn,UO];rfl
theorem Xm(cs:List RC)(hn:∀c∈cs,c.head.neg=false):Ga cs=Er (cs.map RC.d):=by
 unfold Ga Er
 induction cs with
 |nil=>rfl
 |cons c cs q=>rw[Cg,A6,Cg,q (fun d hd=>hn d (by simp[hd])),Q0 c (hn c (by simp))]
end
section
attribute [local go_sem] AE As
open Go.RowKit Go.WideMaps Go.Maps
variable [DecidableEq R3] [DecidableEq A4]
section
variable {w w':World} {own:Bu} {base tb:Nat} {V:TV} {D:TD} {qs:List A4} {sz:Nat}
theorem Fi.fu(h:Fi w own base tb V D qs [] sz){l':Value}{k:List Dq}(b:Aw w' tb [D.m0,D.m1,V.nm,V.nl,V.cm,V.cl,l',V.qm,V.ql,V.li,.int .i64 (sz:Nat)] 218)(hS:w'.ownsRow base 226 22 l' k.length (k.flatMap AG))(g:Cs w w' tb (.map none) D.ru (.map none) l'):
 Fi w' (Dt own (1,2) (.map none) l') base tb ⟨V.nm,V.nl,V.cm,V.cl,V.qm,V.ql,V.li⟩ ⟨D.m0,D.m1,l',D.names,D.ae,k⟩ qs [] sz/\Im own base w w' (0,0) (1,2) (.map none) l':=by
 have y:=Gx h.ok g h.ot (fun s e=>by simp at e) (D6.bw own (1,2)) h.dd ⟨rfl,Hz hS⟩ ⟨fun q hq=>hS.lt q hq,fun q hq=>by simp[AN]at hq⟩
 have v:A3 (fun q=>q=tb\/own q=some (1,2)) w w':=g.only.mono (by
  rintro q (e|e|e)
  ·exact .inl e
  ·exact .inr ((D6.bw own (1,2)) q (.inl e))
  ·exact .inr (h.dd q (.inr e)))
 have f:=fun(o:DK) (hn:o≠(0,0)) (u:o≠(1,2)) q (e:own q=some o)=>(by
  rintro(j|j)
  ·rw[j,h.ot]at e
   injection e with e
   exact hn e.symm
  ·rw[e]at j
   injection j with j
   exact u j:¬(q=tb\/own q=some (1,2)))
 have z:=fun q (hn:q≠tb) (e:own q=some (0,0))=>(by
  rintro(j|j)
  ·exact hn j
  ·rw[e]at j
   simp at j:¬(q=tb\/own q=some (1,2)))
 refine⟨⟨y.ok,b,h.names.only v (fun q hq=>f (1,0) (by simp) (by simp) q (h.du q (.inr hq))) (fun q hq=>f (1,0) (by simp) (by simp) q (h.dv q (.inl hq))),h.ae.only v (fun q hq=>f (1,1) (by simp) (by simp) q (h.dr q (.inr hq))) (fun q hq=>f (1,1) (by simp) (by simp) q (h.dt q (.inl hq))),hS,h.qs.only v (fun q hq=>z q (fun e=>Av h.qs.1 h.al (by decide) (e▸hq)) (h.ee q (.inr hq))) (fun q hq=>z q (fun e=>?_) (h.ef q (.inl hq))),BI h.list v (fun q hq=>z q (fun e=>Av h.list h.al (by decide) (e▸hq)) (h.dy q (.inr hq))),y.ext.br _ _ h.ot,h.ef.ext y.ext,h.ee.ext y.ext,h.dy.ext y.ext,h.dv.ext y.ext,h.du.ext y.ext,h.dt.ext y.ext,h.dr.ext y.ext,y.ol,?_⟩,y⟩
 ·rcases h.qs.2.2 with⟨j,_⟩|⟨r,D,j,_,d,_⟩
  ·rw[j]at hq;simp[AN]at hq
  ·rw[j]at hq;simp only[AN,Al]at hq;exact E9 d h.al (by omega)
 ·intro i t ht;simp at ht
end
theorem L8{o:Oper}{a:Act}{w:World}{K:Act->World->Prop}{Q:Exit->Act->World->Prop}(x:Operand)(k:o.op=.buildSlice 211 1 #[(0,x)])(q:Dq)(hx:a.eval x=.agg (AG q).toArray)(h:K (a.put o.dst (.slice (some ⟨w.heap.size,0,none⟩) 1 1)) (w.alloc (.cells (AG q).toArray 226))):o.wp prog a w K Q:=by
 obtain⟨v,z,y,j,q0⟩:=Bc Ru;refine wp_buildSlice 211 226 1 _ k (AG q).toArray v _ underlying211 z y (by rw[j];decide) (by rw[j];decide) ?_ h;have e:(#[(0,x)].map fun(i,x)=>(i,a.eval x)).toList=[(0,Value.agg (AG q).toArray)]:=by simp[hx]
 rw[e,j];exact jK q
theorem Xs(nm cl:List B8)(d:Bd)(h:d.lits.length<=4):(B5 nm cl d).1.length<=nm.length+5/\(B5 nm cl d).2.1.length<=cl.length+15:=by have h1:=KF (nm,cl,[]) d.name d.ts;have h2:=Qg (CY (nm,cl,[]) d.name d.ts) d.sorted;have q:=h1.a;have j:=h1.b;have b1:=h2.a;have b2:=h2.b;rw[d.cy]at b1 b2;unfold B5;simp only at q j;omega
theorem YL(nm cl:List B8)(ds:List Bd)(d:Bd):Du nm cl (ds++[d])=((B5 (Du nm cl ds).1 (Du nm cl ds).2 d).1,(B5 (Du nm cl ds).1 (Du nm cl ds).2 d).2.1):=by unfold Du;rw[Dd];rfl
theorem QE(nm cl:List B8)(d:Bd)(ds:List Bd):Du nm cl (d::ds)=Du (B5 nm cl d).1 (B5 nm cl d).2.1 ds:=rfl
theorem SK(nm cl:List B8)(ds:List Bd)(d:Bd):EE nm cl (ds++[d])=EE nm cl ds++[ED (B5 (Du nm cl ds).1 (Du nm cl ds).2 d).1 (B5 (Du nm cl ds).1 (Du nm cl ds).2 d).2.1 (B5 (Du nm cl ds).1 (Du nm cl ds).2 d).2.2 d]:=by
 induction ds generalizing nm cl with
 |nil=>rfl
 |cons a r q=>show _::EE _ _ (r++[d])=_::(EE _ _ r++_);rw[q,QE]
theorem NR(nm cl:List B8)(ds:List Bd):(EE nm cl ds).length=ds.length:=by
 induction ds generalizing nm cl with
 |nil=>rfl
 |cons a r q=>simp[EE,q]
theorem Ul(nm cl:List B8)(ds:List Bd)(h:∀d∈ds,d.lits.length<=4):(Du nm cl ds).1.length<=nm.length+5*ds.length/\(Du nm cl ds).2.length<=cl.length+15*ds.length:=by
 induction ds generalizing nm cl with
 |nil=>exact⟨by simp[Du],by simp[Du]⟩
 |cons a r q=>have h1:=Xs nm cl a (h a (Lj ..));have h2:=q (B5 nm cl a).1 (B5 nm cl a).2.1 (fun d hd=>h d (E4 _ hd));rw[QE,List.length_cons];omega
def Rk(tb:Nat):Bu:=fun q=>if q=tb then some (0,0) else none
theorem jE(w:World)(base:Nat)(ao:Option Addr)(cap:Nat)(ds:List Bd)(hP:AY w base (.slice ao ds.length cap) ds)(hW:∀d∈ds,d.WF)(hn:ds.length<=40):
 Calls prog 79 #[.slice ao ds.length cap] w fun e w'=>∃(own:Bu) (V:TV) (ru:Value),e=.returned (.pointer (some ⟨w.heap.size,0,none⟩))/\Fi w' own w.heap.size w.heap.size V ⟨.int .i32 0,.int .u32 0,ru,(Du [] [] ds).1,(Du [] [] ds).2,EE [] [] ds⟩ [] [] 0/\Below w.heap.size w w':=by
 obtain⟨i1,q9,j2,j3,j4⟩:=Bc Ru;go_enter func79,ntmps79;go_wp2_with fail
 go_loopw [10] (fun iv wr=>∃(k:Nat) (own:Bu) (V:TV) (ru:Value),iv=.int .i64 (k:Nat)/\k<=ds.length/\Fi wr own w.heap.size w.heap.size V ⟨.int .i32 0,.int .u32 0,ru,(Du [] [] (ds.take k)).1,(Du [] [] (ds.take k)).2,EE [] [] (ds.take k)⟩ [] [] 0/\Below w.heap.size w wr) (fun iv _=>ds.length-(intOf iv).toNat)
 case atStart=>
  have a:=Aw.new w [.int .i32 0,.int .u32 0,.map none,.slice none 0 0,.map none,.slice none 0 0,.slice none 0 0,.map none,.slice none 0 0,.slice none 0 0,.int .i64 0] 218;have hl:=a.lt;refine⟨0,Rk w.heap.size,⟨.map none,.slice none 0 0,.map none,.slice none 0 0,.map none,.slice none 0 0,.slice none 0 0⟩,.slice none 0 0,rfl,Cq _,⟨⟨?_,by omega,?_⟩,a,Cu.nil _ _,Cu.nil _ _,Ak _ _ _ _,C1.nil _ _,Ak _ _ _ _,by simp[Rk],D6.bw _ _,D6.bh _ _,D6.bh _ _,D6.bw _ _,D6.bh _ _,D6.bw _ _,D6.bh _ _,D6.bh _ _,fun i t ht=>by simp at ht⟩,Ac w _⟩
  ·intro q o e;unfold Rk at e
   split at e
   ·omega
   ·cases e
  ·intro q s e;unfold Rk at e
   split at e
   ·simp at e
   ·cases e
 case round=>
  obtain⟨k,own,V,ru,rfl,hk,J,a⟩:=hrel;by_cases C:k<ds.length
  ·obtain⟨g,bo,bcap,rfl,I,e0,e1,e2,e3,e4,e5,H⟩:=FB hP k C;have j1:=hW ds[k] (Aj C);have q5:=Ao (Ad C);have O:=Ul [] [] (ds.take k) (fun d hd=>(hW d (Dy hd)).lits);have q3:(ds.take k).length=k:=by simp;omega
   rw[q3]at O;simp only[List.length_nil]at O;have q4:=Ao (NR [] [] (ds.take k));generalize ds[k]=d at*;obtain⟨x,HX⟩:∃x,Hid (x=Du [] [] (ds.take k)):=⟨_,rfl⟩;obtain⟨rs,M⟩:∃rs,Hid (rs=EE [] [] (ds.take k)):=⟨_,rfl⟩;rw[<-HX.out]at O;rw[<-HX.out,<-M.out]at J;obtain⟨ro,U,q2⟩:=Au J.rules;simp only at q2;subst q2;obtain⟨z,n⟩:∃z,Hid (rs.length=z):=⟨_,rfl⟩;have j9:z<=40:=by have:=q4.out;rw[<-M.out,n.out,q3]at this;omega
   rw[n.out]at J;rw[<-a.cell (p:=⟨g,k*6,none⟩) I]at e0;rw[<-a.cell (p:=⟨g,k*6+1,none⟩) I]at e1;rw[<-a.cell (p:=⟨g,k*6+2,none⟩) I]at e2;rw[<-a.cell (p:=⟨g,k*6+3,none⟩) I]at e3;rw[<-a.cell (p:=⟨g,k*6+4,none⟩) I]at e4;rw[<-a.cell (p:=⟨g,k*6+5,none⟩) I]at e5;have j7:=J.al.lt;have N:Below wr.heap.size wr (wr.alloc (.cells #[Value.string d.nm,.int .i64 d.cn,.string (d.t 0),.string (d.t 1),.string (d.t 2),.slice bo d.lits.length bcap] 86)).drew:=(Ac _ _).drew;have q6:Aw (wr.alloc (.cells #[Value.string d.nm,.int .i64 d.cn,.string (d.t 0),.string (d.t 1),.string (d.t 2),.slice bo d.lits.length bcap] 86)).drew wr.heap.size [.string d.nm,.int .i64 d.cn,.string (d.t 0),.string (d.t 1),.string (d.t 2),.slice bo d.lits.length bcap] 86:=(Aw.new wr _ _).drew
   have q1:own wr.heap.size=none:=by
    cases e:own wr.heap.size with
    |none=>rfl
    |some o=>exact absurd (J.ok.lt _ o e).2 (by omega)
   have c6:wr.cell? ⟨w.heap.size,6,none⟩=some (.slice ro z U):=J.al.cell 6;obtain⟨q,HQ⟩:∃q,Hid (q=ED (B5 x.1 x.2 d).1 (B5 x.1 x.2 d).2.1 (B5 x.1 x.2 d).2.2 d):=⟨_,rfl⟩
   have HC:=Ao (VJ (J.below N) d bo bcap (Ah (Ah H a) N) (fun y hy=>by
    cases e:own y with
    |none=>rfl
    |some o=>exact absurd (J.ok.lt y o e).1 (by have:=(H.lt y hy).2;omega)) j1 (by simp only;omega) (by simp only;omega))
   rw[<-HQ.out]at HC
   have L:=Ao (show ∀(b:Bu) (r:TV) (w4:World) (g2 j:Nat) (w6:World),Fi w4 b w.heap.size w.heap.size r ⟨.int .i32 0,.int .u32 0,.slice ro z U,(B5 x.1 x.2 d).1,(B5 x.1 x.2 d).2.1,rs⟩ [] [] 0->BX UC own (wr.alloc (.cells #[Value.string d.nm,.int .i64 d.cn,.string (d.t 0),.string (d.t 1),.string (d.t 2),.slice bo d.lits.length bcap] 86)).drew b w4->w6.ownsRow w.heap.size 226 22 (.slice (some ⟨g2,0,none⟩) (z+1) j) (z+1) (rs.flatMap AG++AG q)->(w4.alloc (.cells (AG q).toArray 226)).grownBy w6 (Value.slice ro z U).ownBlock->(some g2=(Value.slice ro z U).ownBlock\/g2=(w4.alloc (.cells (AG q).toArray 226)).heap.size)->Aw w6 w.heap.size [.int .i32 0,.int .u32 0,r.nm,r.nl,r.cm,r.cl,.slice ro z U,r.qm,r.ql,r.li,.int .i64 ((0:Nat):Int)] 218->(∃(k':Nat) (own':Bu) (V':TV) (j5:Value),Value.int .i64 ((k:Int)+1)=.int .i64 (k':Nat)/\k'<=ds.length/\Fi (w6.setCell ⟨w.heap.size,6,none⟩ (.slice (some ⟨g2,0,none⟩) (z+1) j)) own' w.heap.size w.heap.size V' ⟨.int .i32 0,.int .u32 0,j5,(Du [] [] (ds.take k')).1,(Du [] [] (ds.take k')).2,EE [] [] (ds.take k')⟩ [] [] 0/\Below w.heap.size w (w6.setCell ⟨w.heap.size,6,none⟩ (.slice (some ⟨g2,0,none⟩) (z+1) j)))/\ds.length-(intOf (.int .i64 ((k:Int)+1))).toNat<ds.length-(intOf (.int .i64 (k:Nat))).toNat by
    intro b r w4 g2 j w6 u l P Z Y m
    have hf:Cs w4 (w6.setCell ⟨w.heap.size,6,none⟩ (.slice (some ⟨g2,0,none⟩) (z+1) j)) w.heap.size (.map none) (.slice ro z U) (.map none) (.slice (some ⟨g2,0,none⟩) (z+1) j):=by
     refine⟨((A3.ab (Ac w4 _)).grown Z (fun y hy=>.inl (.inr (.inr hy)))).setCell (p:=⟨w.heap.size,6,none⟩) (.inl (.inl rfl)) _,.inl rfl,?_⟩;rcases Y with h1|h1
     ·left
      rw[<-h1];rfl
     ·right
      intro y hy;simp[Value.ownBlock]at hy;simp at h1;omega
    have q7:(w6.setCell ⟨w.heap.size,6,none⟩ (.slice (some ⟨g2,0,none⟩) (z+1) j)).ownsRow w.heap.size 226 22 (.slice (some ⟨g2,0,none⟩) (z+1) j) (rs++[q]).length ((rs++[q]).flatMap AG):=by rw[Am,n.out,BG];simpa using AJ P ⟨w.heap.size,6,none⟩ _ (Av P m (by decide))
    obtain⟨q8,ha⟩:=u.fu (m.setCell 6 _) q7 hf;have A:=(BX.below (X:=UC) N).trans (l.trans (BX.add ha (.inl rfl) (.inr (.inl rfl))));refine⟨⟨k+1,Dt b (1,2) (.map none) (.slice (some ⟨g2,0,none⟩) (z+1) j),⟨r.nm,r.nl,r.cm,r.cl,r.qm,r.ql,r.li⟩,.slice (some ⟨g2,0,none⟩) (z+1) j,by go_num,C,?_,a.trans (A.only.below a.size ?_)⟩,by simp[intOf];omega⟩
    ·rw[q5.out,YL,SK,<-HX.out,<-M.out,<-HQ.out];exact q8
    ·rintro y ⟨o,e,_⟩
     exact(J.ok.lt y o e).1)
   go_upto_region 5 with fail
   as_aux_lemma=>
    refine wp_region_held_drew (S:=fun W=>Aw W wr.heap.size [.string d.nm,.int .i64 d.cn,.string (d.t 0),.string (d.t 1),.string (d.t 2),.slice bo d.lits.length bcap] 86) (by kernel_rfl) q6 (fun G=>?_);refine wpAnyH_take (i:=0) (v:=.pointer (some ⟨w.heap.size,0,none⟩)) rfl (by kernel_rfl) (by kernel_rfl) (by kernel_rfl) (fun _ _ _ h=>h) (Or.inl ⟨by rfl,fun W hW=>by go_simp⟩) G ?_
    try simp only[List.getElem_toArray,List.getElem_cons_zero,List.getElem_cons_succ,Act.put,Ae,List.set_cons_zero,List.set_cons_succ]
    refine wpAnyH_take (i:=1) (v:=.pointer (some ⟨w.heap.size,0,none⟩)) rfl (by kernel_rfl) (by kernel_rfl) (by kernel_rfl) (fun _ _ _ h=>h) (Or.inl ⟨by rfl,fun W hW=>by go_simp⟩) G ?_
    try simp only[List.getElem_toArray,List.getElem_cons_zero,List.getElem_cons_succ,Act.put,Ae,List.set_cons_zero,List.set_cons_succ]
    refine wpAnyH_take (i:=2) (v:=.pointer (some ⟨w.heap.size,0,none⟩)) rfl (by kernel_rfl) (by kernel_rfl) (by kernel_rfl) (fun _ _ _ h=>h) (Or.inl ⟨by rfl,fun W hW=>by go_simp⟩) G ?_
    try simp only[List.getElem_toArray,List.getElem_cons_zero,List.getElem_cons_succ,Act.put,Ae,List.set_cons_zero,List.set_cons_succ]
    refine wpAnyH_take (i:=3) (v:=.pointer (some ⟨w.heap.size,6,none⟩)) rfl (by kernel_rfl) (by kernel_rfl) (by kernel_rfl) (fun _ _ _ h=>h) (Or.inl ⟨by rfl,fun W hW=>by go_simp⟩) G ?_
    try simp only[List.getElem_toArray,List.getElem_cons_zero,List.getElem_cons_succ,Act.put,Ae,List.set_cons_zero,List.set_cons_succ]
    refine wpAnyH_take (i:=5) (v:=.pointer (some ⟨w.heap.size,0,none⟩)) rfl (by kernel_rfl) (by kernel_rfl) (by kernel_rfl) (fun _ _ _ h=>h) (Or.inl ⟨by rfl,fun W hW=>by go_simp⟩) G ?_
    try simp only[List.getElem_toArray,List.getElem_cons_zero,List.getElem_cons_succ,Act.put,Ae,List.set_cons_zero,List.set_cons_succ]
    refine wpAnyH_take (i:=6) (v:=.pointer (some ⟨w.heap.size,0,none⟩)) rfl (by kernel_rfl) (by kernel_rfl) (by kernel_rfl) (fun _ _ _ h=>h) (Or.inl ⟨by rfl,fun W hW=>by go_simp⟩) G ?_
    try simp only[List.getElem_toArray,List.getElem_cons_zero,List.getElem_cons_succ,Act.put,Ae,List.set_cons_zero,List.set_cons_succ]
    refine wpAnyH_take (i:=7) (v:=.pointer (some ⟨w.heap.size,2,none⟩)) rfl (by kernel_rfl) (by kernel_rfl) (by kernel_rfl) (fun _ _ _ h=>h) (Or.inl ⟨by rfl,fun W hW=>by go_simp⟩) G ?_
    try simp only[List.getElem_toArray,List.getElem_cons_zero,List.getElem_cons_succ,Act.put,Ae,List.set_cons_zero,List.set_cons_succ]
    refine wpAnyH_take (i:=8) (v:=.agg #[.string d.nm,.int .i64 d.cn,.string (d.t 0),.string (d.t 1),.string (d.t 2),.slice bo d.lits.length bcap]) rfl (by kernel_rfl) (by kernel_rfl) (by kernel_rfl) (fun _ _ _ h=>h) (Or.inl ⟨by rfl,fun W hW=>by have v0:W.cell? ⟨wr.heap.size,0,none⟩=some (.string d.nm):=hW.cell 0;have v1:W.cell? ⟨wr.heap.size,1,none⟩=some (.int .i64 d.cn):=hW.cell 1;have v2:W.cell? ⟨wr.heap.size,2,none⟩=some (.string (d.t 0)):=hW.cell 2;have v3:W.cell? ⟨wr.heap.size,3,none⟩=some (.string (d.t 1)):=hW.cell 3;have v4:W.cell? ⟨wr.heap.size,4,none⟩=some (.string (d.t 2)):=hW.cell 4;have v5:W.cell? ⟨wr.heap.size,5,none⟩=some (.slice bo d.lits.length bcap):=hW.cell 5;go_simp⟩) G ?_
    try simp only[List.getElem_toArray,List.getElem_cons_zero,List.getElem_cons_succ,Act.put,Ae,List.set_cons_zero,List.set_cons_succ]
    refine wpAnyH_ready (rs:=[4,9]) (by kernel_rfl) (by simp) ?_;refine AllReadyH.cons rfl (fun K c=> ?pa) ?pz1
    case' pz1=>refine AllReadyH.cons rfl (fun K c=> ?pb) ?py1
    case py1=>exact AllReadyH.nil
    case' pa=>
     go_simp;refine c.out _ _ G (fun B=>?_)
     try simp only[List.getElem_toArray,List.getElem_cons_zero,List.getElem_cons_succ,Act.put,Ae,List.set_cons_zero,List.set_cons_succ]
     refine wpAnyH_ready (rs:=[9]) (by kernel_rfl) (by simp) ?_;refine AllReadyH.cons rfl (fun K c=>?_) ?_
     rotate_left
     exact AllReadyH.nil;go_simp;go_wp2_with (go_at_call 112;refine(HC.out).mono ?_;rintro e w4 ⟨b,r,rfl,u,l⟩);have d6:w4.cell? ⟨w.heap.size,6,none⟩=some (.slice ro z U):=u.al.cell 6;have j0:=u.al.lt;refine c.out _ _ (Aw.aw B l q1) (fun Q=>?_)
     try simp only[List.getElem_toArray,List.getElem_cons_zero,List.getElem_cons_succ,Act.put,Ae,List.set_cons_zero,List.set_cons_succ]
     refine wpAnyH_ready (rs:=[10]) (by kernel_rfl) (by simp) ?_;refine AllReadyH.cons rfl (fun K c=>?_) ?_
     rotate_left
     exact AllReadyH.nil;rw[Ai (by rfl)];refine L8 (.tmp 23) rfl q rfl ?_;refine c.out _ _ (Aw.alloc Q _) (fun R=>?_)
     try simp only[List.getElem_toArray,List.getElem_cons_zero,List.getElem_cons_succ,Act.put,Ae,List.set_cons_zero,List.set_cons_succ]
    case' pb=>
     go_simp;go_wp2_with (go_at_call 112;refine(HC.out).mono ?_;rintro e w4 ⟨b,r,rfl,u,l⟩);have d6:w4.cell? ⟨w.heap.size,6,none⟩=some (.slice ro z U):=u.al.cell 6;have j0:=u.al.lt;refine c.out _ _ (Aw.aw G l q1) (fun B=>?_)
     try simp only[List.getElem_toArray,List.getElem_cons_zero,List.getElem_cons_succ,Act.put,Ae,List.set_cons_zero,List.set_cons_succ]
     refine wpAnyH_ready (rs:=[4,10]) (by kernel_rfl) (by simp) ?_;refine AllReadyH.cons rfl (fun K c=> ?pc) ?pz2
     case' pz2=>refine AllReadyH.cons rfl (fun K c=> ?pd) ?py2
     case py2=>exact AllReadyH.nil
     case' pc=>
      go_simp;refine c.out _ _ B (fun Q=>?_)
      try simp only[List.getElem_toArray,List.getElem_cons_zero,List.getElem_cons_succ,Act.put,Ae,List.set_cons_zero,List.set_cons_succ]
      refine wpAnyH_ready (rs:=[10]) (by kernel_rfl) (by simp) ?_;refine AllReadyH.cons rfl (fun K c=>?_) ?_
      rotate_left
      exact AllReadyH.nil;rw[Ai (by rfl)];refine L8 (.tmp 23) rfl q rfl ?_;refine c.out _ _ (Aw.alloc Q _) (fun R=>?_)
      try simp only[List.getElem_toArray,List.getElem_cons_zero,List.getElem_cons_succ,Act.put,Ae,List.set_cons_zero,List.set_cons_succ]
     case' pd=>
      rw[Ai (by rfl)];refine L8 (.tmp 23) rfl q rfl ?_;refine c.out _ _ (Aw.alloc B _) (fun Q=>?_)
      try simp only[List.getElem_toArray,List.getElem_cons_zero,List.getElem_cons_succ,Act.put,Ae,List.set_cons_zero,List.set_cons_succ]
      refine wpAnyH_ready (rs:=[4]) (by kernel_rfl) (by simp) ?_;refine AllReadyH.cons rfl (fun K c=>?_) ?_
      rotate_left
      exact AllReadyH.nil;go_simp;refine c.out _ _ Q (fun R=>?_)
      try simp only[List.getElem_toArray,List.getElem_cons_zero,List.getElem_cons_succ,Act.put,Ae,List.set_cons_zero,List.set_cons_succ]
    all_goals
     refine wpAnyH_ready (rs:=[11]) (by kernel_rfl) (by simp) ?_;refine AllReadyH.cons rfl (fun K c=>?_) ?_
     rotate_left
     exact AllReadyH.nil
     as_aux_lemma=>
      have f:w4.ownsRow w.heap.size 226 22 (.slice ro z U) rs.length (rs.flatMap AG):=u.rules;rw[n.out]at f;have q0:=u.al.alloc (.cells (AG q).toArray 226);refine CP _ rfl (.tmp 18) (.tmp 24) 211 rfl w.heap.size 226 i1 _ 22 176 underlying211 q9 j2 j3 j4 rfl (by decide) (.slice ro z U) z (rs.flatMap AG) rfl (f.alloc _) ⟨w4.heap.size,0,none⟩ 1 1 (AG q) rfl (by decide) rfl (AS w4 (AG q) 226) (jD q) (by unfold maxLen;omega) (by omega) (by have:=u.ok.base;simp;omega) ?_;intro g2 j w6 P Z Y;have m:=q0.grown Z (Av (f.alloc _) q0 (by decide));have g6:w6.cell? ⟨w.heap.size,6,none⟩=some (.slice ro z U):=m.cell 6;have f6:=m.frozen;have j8:=m.lt;refine c.out _ _ (Aw.grown R Z (Av (f.alloc _) R (by decide))) (fun E=>?_)
      try simp only[List.getElem_toArray,List.getElem_cons_zero,List.getElem_cons_succ,Act.put,Ae,List.set_cons_zero,List.set_cons_succ]
      refine wpAnyH_take (i:=12) (v:=.pointer (some ⟨w.heap.size,0,none⟩)) rfl (by kernel_rfl) (by kernel_rfl) (by kernel_rfl) (fun _ _ _ h=>h) (Or.inl ⟨by rfl,fun W hW=>by go_simp⟩) E ?_
      try simp only[List.getElem_toArray,List.getElem_cons_zero,List.getElem_cons_succ,Act.put,Ae,List.set_cons_zero,List.set_cons_succ]
      refine wpAnyH_take (i:=13) (v:=.pointer (some ⟨w.heap.size,6,none⟩)) rfl (by kernel_rfl) (by kernel_rfl) (by kernel_rfl) (fun _ _ _ h=>h) (Or.inl ⟨by rfl,fun W hW=>by go_simp⟩) E ?_
      try simp only[List.getElem_toArray,List.getElem_cons_zero,List.getElem_cons_succ,Act.put,Ae,List.set_cons_zero,List.set_cons_succ]
      refine wpAnyH_ready (rs:=[14]) (by kernel_rfl) (by simp) ?_;refine AllReadyH.cons rfl (fun K c=>?_) ?_
      ·as_aux_lemma=>
       go_simp;refine c.out _ _ (Aw.setOther E ⟨w.heap.size,6,none⟩ _ (by show wr.heap.size≠w.heap.size;omega)) (fun j6=>?_)
       try simp only[List.getElem_toArray,List.getElem_cons_zero,List.getElem_cons_succ,Act.put,Ae,List.set_cons_zero,List.set_cons_succ]
       refine wpAnyH_done (by kernel_rfl) ?_ _;go_wp2_with fail;exact L.out b r w4 g2 j w6 u l P Z Y m
      exact AllReadyH.nil
  ·have hd:decide ((k:Int)<(ds.length:Int))=false:=by simp;omega
   rw[show k=ds.length by omega,AL]at J;go_wp2_with fail
   go_ret
   exact⟨own,V,ru,rfl,J,a⟩
end
end Go.Proofs.YtpbfiffgcgnidaaGreatDoor
