import Derived.Test.YtpbfiffgcgnidaaGreatDoorYal
import Derived.Laws.AppendOwnNone
import Derived.Test.YtpbfiffgcgnidaaGreatDoorY14
import Derived.Test.YtpbfiffgcgnidaaGreatDoorY47
namespace Go.Proofs.YtpbfiffgcgnidaaGreatDoor
set_option maxRecDepth 100000
set_option maxHeartbeats 4000000
set_option linter.unusedSimpArgs false
open Go.Proofs.Tryz
section
attribute [local go_sem] AE As
open Go.RowKit Go.WideMaps Go.Maps
theorem Yg(g:GV)(ts:List RT)(k:Nat)(q:k<ts.length):((ts.take (k+1)).map fun t=>gT (Ic g t)).flatMap RT.cells=((ts.take k).map fun t=>gT (Ic g t)).flatMap RT.cells++[.string (bs (Ic g ts[k])),.bool false,.int .i64 0]:=by rw[Ad q,A8,BG];rfl
theorem bE(g:GV)(a:RA):((a.ts.take a.ts.length).map fun t=>gT (Ic g t)).flatMap RT.cells=(gA (FE g a)).ts.flatMap RT.cells:=by rw[AL];unfold gA FE;rw[C6];rfl
def dJ(w:World)(b:BA)(e:Ending)(w':World):Prop:=∃j q,e=.returned (.agg #[.string (bs b.1),.slice j b.2.length q,.int .i64 0,.int .i64 0,.bool false])/\w'.ownsRow w.heap.size 130 3 (.slice j b.2.length q) b.2.length ((gA b).ts.flatMap RT.cells)/\Below w.heap.size w w'
structure YR(w wr:World)(gc ac:List Value)(nm:ByteArray)(tv:Value)(n:Nat)(xs:List Value):Prop where
 g0:Aw wr w.heap.size gc 156
 a0:Aw wr (w.heap.size+1) ac 69
 r0:Aw wr (w.heap.size+1+1) L3 69
 ob:Aw wr (w.heap.size+1+1+1) [.string nm,tv,.int .i64 0,.int .i64 0,.bool false] 69
 na:wr.ownsRow w.heap.size 130 3 tv n xs
 cf:Below w.heap.size w wr
section
variable {w wr:World} {gc ac:List Value} {nm:ByteArray} {tv:Value} {n:Nat} {xs:List Value}
theorem YR.below(h:YR w wr gc ac nm tv n xs){j:World}(q:Below wr.heap.size wr j):YR w j gc ac nm tv n xs:=
 ⟨h.g0.below q,h.a0.below q,h.r0.below q,h.ob.below q,Ah h.na q,h.cf.trans (q.mono h.cf.size)⟩
theorem YR.drew(h:YR w wr gc ac nm tv n xs):YR w wr.drew gc ac nm tv n xs:=⟨h.g0,h.a0,h.r0,h.ob,h.na,h.cf.drew⟩
theorem YR.more(h:YR w wr gc ac nm tv n xs){z cap m:Nat}{w1:World}{ys:List Value}(y:w1.ownsRow w.heap.size 130 3 (.slice (some ⟨z,0,none⟩) m cap) m ys)(j:wr.grownBy w1 tv.ownBlock):
 YR w (w1.setCell ⟨w.heap.size+1+1+1,1,none⟩ (.slice (some ⟨z,0,none⟩) m cap)) gc ac nm (.slice (some ⟨z,0,none⟩) m cap) m ys:=by
 have q:=h.ob.grown j (Av h.na h.ob (by decide));exact⟨(h.g0.grown j (Av h.na h.g0 (by decide))).setOther _ _ (by simp only[];omega),(h.a0.grown j (Av h.na h.a0 (by decide))).setOther _ _ (by simp only[];omega),(h.r0.grown j (Av h.na h.r0 (by decide))).setOther _ _ (by simp only[];omega),q.setCell 1 _,AJ y _ _ (Av y q (by decide)),(h.cf.grown j h.cf.size (A9 h.na)).setCell (by simp only[];omega) _⟩
end
theorem YR.new(w:World)(gc ac:List Value)(nm:ByteArray):YR w ((((w.alloc (.cells gc.toArray 156)).alloc (.cells ac.toArray 69)).alloc (.cells L3.toArray 69)).alloc (.cells #[.string nm,.slice none 0 0,.int .i64 0,.int .i64 0,.bool false] 69)) gc ac nm (.slice none 0 0) 0 []:=by
 refine⟨(((Aw.new w gc _).alloc _).alloc _).alloc _,?_,?_,?_,Ak _ _ _ _,((((Ac w _).alloc (by simp) _).alloc (by simp;omega) _).alloc (by simp;omega) _)⟩
 ·have h:=((Aw.new (w.alloc (.cells gc.toArray 156)) ac 69).alloc (.cells L3.toArray 69)).alloc (.cells #[.string nm,.slice none 0 0,.int .i64 0,.int .i64 0,.bool false] 69);simp only[EL]at h;exact h
 ·have h:=(Aw.new ((w.alloc (.cells gc.toArray 156)).alloc (.cells ac.toArray 69)) L3 69).alloc (.cells #[.string nm,.slice none 0 0,.int .i64 0,.int .i64 0,.bool false] 69);simp only[EL]at h;exact h
 ·have h:=Aw.new (((w.alloc (.cells gc.toArray 156)).alloc (.cells ac.toArray 69)).alloc (.cells L3.toArray 69)) [.string nm,.slice none 0 0,.int .i64 0,.int .i64 0,.bool false] 69;simp only[EL]at h;exact h
theorem TM(w:World)(base b1:Nat)(Y K:Option Addr)(J Z:Nat)(g:GV)(E:JO w base (.slice Y g.length J) (.slice K g.length Z) g)(q5:g.length<=1000)
 (a:RA)(qa:Option Addr)(U:Nat)(hA:w.ownsRow b1 130 3 (.slice qa a.ts.length U) a.ts.length (a.ts.flatMap RT.cells))(q0:a.ts.length<=100):
 Calls prog 154 #[.agg #[.slice Y g.length J,.slice K g.length Z],.agg #[.string (bs a.name),.slice qa a.ts.length U,.int .i64 (a.pl:Nat),.int .i64 (a.af:Nat),.bool a.neg]] w fun e w'=>dJ w (FE g a) e w':=by
 obtain⟨i1,R,N,X,S⟩:=Bc Oj;have G:=YR.new w [.slice Y g.length J,.slice K g.length Z] [.string (bs a.name),.slice qa a.ts.length U,.int .i64 (a.pl:Nat),.int .i64 (a.af:Nat),.bool a.neg] (bs a.name);have HG:=Ao E;clear E;go_enter func154,ntmps154;go_wp2_with fail
 go_loopw [6] (fun H wr=>∃(k:Nat) (V:Option Addr) (j:Nat),k<=a.ts.length/\H=.int .i64 k/\YR w wr [.slice Y g.length J,.slice K g.length Z] [.string (bs a.name),.slice qa a.ts.length U,.int .i64 (a.pl:Nat),.int .i64 (a.af:Nat),.bool a.neg] (bs a.name) (.slice V k j) k (((a.ts.take k).map fun t=>gT (Ic g t)).flatMap RT.cells)) (fun H _=>a.ts.length-(intOf H).toNat)
 case atStart=>exact⟨0,none,0,by omega,rfl,G⟩
 case round=>
  clear G;obtain⟨k,V,j,hk,rfl,hS⟩:=hrel;have q1:wr.cell? ⟨w.heap.size+1,1,none⟩=some (.slice qa a.ts.length U):=hS.a0.cell 1;have q3:wr.cell? ⟨w.heap.size,0,none⟩=some (.slice Y g.length J):=hS.g0.cell 0;have q4:wr.cell? ⟨w.heap.size,1,none⟩=some (.slice K g.length Z):=hS.g0.cell 1;obtain⟨o0,o1,o2,o3,o4⟩:=hS.ob.c5;have q8:=hS.ob.lt;have q9:=hS.r0.lt;have q6:=hS.a0.lt;have q7:=hS.g0.lt;have j0:=hS.cf.size;by_cases x:k<a.ts.length
  ·obtain⟨ga,B,q2,t0,t1,t2⟩:=FM (Ah hA hS.cf) k x;subst B;have m:=Ao (fun W E=>mC W base Y K J Z g E (by omega) a.ts[k].s);have z:=Ao (Yg g a.ts k x);unfold RT.w at t0;obtain⟨t,ht⟩:∃t,a.ts[k]=t:=⟨_,rfl⟩;simp only[ht]at t0 t1 t2 m z;clear ht;cases hv:t.var
   ·rw[hv]at t1;have d:Ic g t=t.s:=by unfold Ic;rw[hv,Af (by simp)]
    rw[d]at z;clear d m;have q:=hS.below (Ac wr (.cells #[.string (bs t.s),.bool false,.int .i64 0] 130));go_wp2_with (at_builtin;refine Bv _ rfl _ _ 67 rfl w.heap.size 130 i1 _ 3 32 underlying67 R N X S rfl (by decide) (.slice V k j) k _ rfl (by exact q.na) ⟨wr.heap.size,0,none⟩ 1 1 [.string (bs t.s),.bool false,.int .i64 0] rfl (by decide) rfl (by exact AS wr [.string (bs t.s),.bool false,.int .i64 0] 130) (by intro u M;simp at M;rcases M with rfl|rfl|rfl<;>rfl) (by unfold maxLen;omega) (by omega) (by exact q.cf.size) ?_;intro g2 b w2 c r L;rw[<-z.out]at c;have i:=q.more c r;have y:=q.ob.grown r (Av q.na q.ob (by decide));have A:=y.frozen;have h:=y.cell 1;have P:=y.lt;simp only[List.getElem?_cons_zero,List.getElem?_cons_succ]at h);exact⟨⟨k+1,some ⟨g2,0,none⟩,b,x,by go_num,i⟩,by simp[intOf];omega⟩
   ·rw[hv]at t1;have d:Ic g t=(IU g t.s).getD []:=by unfold Ic;rw[hv,Ai rfl]
    rw[d]at z;have n:=Ao (m.out wr (HG.out.below hS.cf));obtain⟨o,HO⟩:∃o,Hid (IU g t.s=o):=⟨_,Ao rfl⟩;rw[HO.out]at z n;clear d m HO;obtain⟨sv,Q⟩:∃sv,o.getD []=sv:=⟨_,rfl⟩;obtain⟨sb,C⟩:∃sb,o.isSome=sb:=⟨_,rfl⟩;unfold O2 at n;rw[Q,C]at n;rw[Q]at z;clear Q C;go_wp2_with (first|(go_at_call 116;refine(n.out).mono ?_;rintro e w1 ⟨rfl,O⟩;have l:=hS.below O;have m1:=l.ob.cell 1;have j1:=l.ob.lt;have q:=l.below (Ac w1 (.cells #[.string (bs sv),.bool false,.int .i64 0] 130));simp only[List.getElem?_cons_zero,List.getElem?_cons_succ]at m1)|(at_builtin;refine Bv _ rfl _ _ 67 rfl w.heap.size 130 i1 _ 3 32 underlying67 R N X S rfl (by decide) (.slice V k j) k _ rfl (by exact q.na) ⟨w1.heap.size,0,none⟩ 1 1 [.string (bs sv),.bool false,.int .i64 0] rfl (by decide) rfl (by exact AS w1 [.string (bs sv),.bool false,.int .i64 0] 130) (by intro u M;simp at M;rcases M with rfl|rfl|rfl<;>rfl) (by unfold maxLen;omega) (by omega) (by exact q.cf.size) ?_;intro g2 b w2 c r L;rw[<-z.out]at c;have i:=q.more c r;have y:=q.ob.grown r (Av q.na q.ob (by decide));have A:=y.frozen;have h:=y.cell 1;have P:=y.lt;simp only[List.getElem?_cons_zero,List.getElem?_cons_succ]at h));exact⟨⟨k+1,some ⟨g2,0,none⟩,b,x,by go_num,i⟩,by simp[intOf];omega⟩
  ·have I:k=a.ts.length:=by omega
   rw[I,bE]at hS;have f:(FE g a).2.length=a.ts.length:=by simp[FE]
   obtain⟨r0,r1,r2,r3,r4⟩:=hS.r0.c5;have fR:=hS.r0.frozen;have p:=Av hS.na hS.r0 (by decide);go_wp2_with fail;refine Aq (v:=.agg #[.string (bs a.name),.slice V a.ts.length j,.int .i64 0,.int .i64 0,.bool false]) (by simp[results,results154,go_sem,r0,r1,r2,r3,r4]) rfl ⟨V,j,by rw[f];rfl,?_,?_⟩
   ·rw[f];exact AJ (AJ (AJ (AJ (AJ hS.na _ _ p) _ _ p) _ _ p) _ _ p) _ _ p
   ·repeat (refine AQ ?_ (by show w.heap.size<=w.heap.size+1+1;omega) _)
    exact hS.cf
end
section
attribute [local go_sem] AE As
open Go.RowKit Go.WideMaps Go.Maps
structure iU(w:World)(base own b2:Nat)(c:RC)(H:List BA)(hq:Option Addr)(hcap:Nat)(bo:Option Addr)(bcap:Nat)(ao:Option Addr)(cap:Nat):Prop where
 head:w.ownsRow base 130 3 (.slice hq c.head.ts.length hcap) c.head.ts.length (c.head.ts.flatMap RT.cells)
 body:EN w base (.slice bo c.body.length bcap) c.body
 hold:BB w own b2 (.slice ao H.length cap) (H.map gA)
theorem iU.below{w w':World}{base own b2:Nat}{c:RC}{H:List BA}{hq:Option Addr}{q:Nat}{bo:Option Addr}{bcap:Nat}{ao:Option Addr}{cap:Nat}(h:iU w base own b2 c H hq q bo bcap ao cap)(j:Below w.heap.size w w'):iU w' base own b2 c H hq q bo bcap ao cap:=⟨Ah h.head j,h.body.below j,h.hold.below j⟩
structure oD(c:RC)(H:List BA):Prop where
 head:c.head.ts.length<=3
 bp:c.body.length<=4
 body:∀a∈c.body,a.ts.length<=3
 hold:H.length<=100000
 cd:∀b∈H,b.2.length<=3
theorem aX{ts:List RT}:∀{g:GV} {xs:List B8} {g':GV},Fb g ts xs=some g'->g'.length<=g.length+ts.length:=by
 induction ts with
 |nil=>intro g xs g' e;simp[Fb]at e;subst e;simp
 |cons t ts q=>
  intro g xs g' e
  cases xs with
  |nil=>simp[Fb]at e
  |cons x xs=>
   rw[Fb]at e;rw[List.length_cons]
   split at e
   ·split at e
    ·split at e
     ·have:=q e;omega
     ·simp at e
    ·have:=q e;rw[Am,List.length_singleton]at this;omega
   ·split at e
    ·have:=q e;omega
    ·simp at e
theorem aY{g g':GV}{a:RA}{b:BA}(e:Gy g a b=some g'):g'.length<=g.length+a.ts.length:=by
 unfold Gy at e
 split at e
 ·exact aX e
 ·simp at e
theorem AW{w:World}{p:Addr}{v:Value}(h:w.cell? p=some v)(q:p.block<w.heap.size){o:Obj}:(w.alloc o).cell? p=some v:=by rw[(Ac w o).cell q];exact h
theorem AZ{w:World}{p:Addr}{v x y:Value}{B:Nat}(h:w.cell? p=some v)(q:p.block≠B):((w.setCell ⟨B,0,none⟩ x).setCell ⟨B,1,none⟩ y).cell? p=some v:=by
 have e:((w.setCell ⟨B,0,none⟩ x).setCell ⟨B,1,none⟩ y).heap[p.block]? =w.heap[p.block]? :=by rw[FD _ _ _ _ (by simpa using q),FD _ _ _ _ (by simpa using q)]
 rw[World.cell?_of_block e];exact h
theorem Vv{α β:Type}(l:List α)(f:α->List β)(n:Nat):((l.take n).flatMap f).length<=(l.flatMap f).length:=by
 have h:(l.flatMap f)=(l.take n).flatMap f++(l.drop n).flatMap f:=by rw[<-BG,Je]
 rw[h,Am];omega
theorem S7{w:World}{base size n cap:Nat}{e:TypeId}{ao:Option Addr}{xs:List Value}(h:w.ownsRow base e size (.slice ao n cap) n xs)(hn:0<n):∃g,ao=some ⟨g,0,none⟩:=by
 rcases h.2 with⟨_,h2⟩|⟨g,_,_,h1,_⟩
 ·omega
 ·simp only[Bx]at h1;exact⟨g,h1.1⟩
theorem YA{w:World}{base:Nat}{b:List RA}{rows:List (List Value)}(hl:rows.length=b.length)(v:∀(i:Nat) (a:RA) (cs:List Value),b[i]? =some a->rows[i]? =some cs->BY w base a cs):∀u∈rows.flatten,u.oneCell'=true:=by intro u k;rw[dS]at k;obtain⟨y,q,z⟩:=k;obtain⟨j,hj,rfl⟩:=B3 q;exact(v j b[j] rows[j] (by simp) (by simp)).one u z
def iV(w:World)(L:List BA)(e:Ending)(w':World):Prop:=∃v,e=.returned v/\BB w' w.heap.size w.heap.size v (L.map gA)/\(L=[]->v=.slice none 0 0)/\Below w.heap.size w w'
def VT(H:List BA)(g:GV)(l:List RA):Bool:=l.any fun a=>a.neg&&decide (FE g a∈H)
theorem Yi(c:RC)(H:List BA)(hN:oD c H)(hq:Option Addr)(l:Nat)(bo:Option Addr)(bcap:Nat)(ao:Option Addr)(cap:Nat)(base own b2:Nat):∀(m:Nat) (w:World) (k:Nat) (g:GV) (bg:Nat) (n1 n2:Option Addr) (c1 c2:Nat),k<=c.body.length->c.body.length-k<m->iU w base own b2 c H hq l bo bcap ao cap->JO w bg (.slice n1 g.length c1) (.slice n2 g.length c2) g->(g=[]->n1=none/\c1=0/\n2=none/\c2=0)->g.length<=3*k->(FP H c (c.body.drop k) g).length<=100000->
 Calls prog 114 #[.agg #[.string (bs c.head.name),.slice hq c.head.ts.length l,.int .i64 (c.head.pl:Nat),.int .i64 (c.head.af:Nat),.bool c.head.neg,.slice bo c.body.length bcap],.slice ao H.length cap,.int .i64 (k:Nat),.agg #[.slice n1 g.length c1,.slice n2 g.length c2]] w fun e w'=>iV w (FP H c (c.body.drop k) g) e w':=by
 obtain⟨i1,v9,d9,t0,t1⟩:=Bc I5;have HN:=Ao hN;have p8:=hN.bp;have c3:=hN.hold;clear hN;intro m
 induction m with
 |zero=>intro w k g bg n1 n2 c1 c2 hk hm;omega
 |succ m ih=>
  intro w k g bg n1 n2 c1 c2 hk hm hD hG b9 p9 b8;obtain⟨z,HZ⟩:∃z,Hid (FP H c (c.body.drop k) g=z):=⟨_,Ao rfl⟩;rw[HZ.out]at b8⊢;have u5:=Ao ih;clear ih;have u9:=(Aw.new w [.string (bs c.head.name),.slice hq c.head.ts.length l,.int .i64 (c.head.pl:Nat),.int .i64 (c.head.af:Nat),.bool c.head.neg,.slice bo c.body.length bcap] 71).alloc (.cells #[.slice n1 g.length c1,.slice n2 g.length c2] 156);have v5:=Aw.new (w.alloc (.cells #[.string (bs c.head.name),.slice hq c.head.ts.length l,.int .i64 (c.head.pl:Nat),.int .i64 (c.head.af:Nat),.bool c.head.neg,.slice bo c.body.length bcap] 71)) [.slice n1 g.length c1,.slice n2 g.length c2] 156;rw[EL]at v5;have u8:=(Ac w (.cells #[.string (bs c.head.name),.slice hq c.head.ts.length l,.int .i64 (c.head.pl:Nat),.int .i64 (c.head.af:Nat),.bool c.head.neg,.slice bo c.body.length bcap] 71)).alloc (by simp) (.cells #[.slice n1 g.length c1,.slice n2 g.length c2] 156);go_enter func114,ntmps114;go_wp2_with fail
  go_loopw [2] (fun kv wr=>∃(q:Nat),k<=q/\q<=c.body.length/\kv=.int .i64 q/\Hid (FP H c (c.body.drop q) g=z)/\Aw wr w.heap.size [.string (bs c.head.name),.slice hq c.head.ts.length l,.int .i64 (c.head.pl:Nat),.int .i64 (c.head.af:Nat),.bool c.head.neg,.slice bo c.body.length bcap] 71/\Aw wr (w.heap.size+1) [.slice n1 g.length c1,.slice n2 g.length c2] 156/\Below w.heap.size w wr) (fun kv _=>c.body.length-(intOf kv).toNat)
  case atStart=>exact⟨k,Ab _,hk,rfl,HZ,u9,v5,u8⟩
  case round=>
   clear u9 v5 u8 HZ;obtain⟨q,c4,c9,rfl,HX,hC,f,G⟩:=hrel;have e5:wr.cell? ⟨w.heap.size,5,none⟩=some (.slice bo c.body.length bcap):=hC.cell 5;have q4:=hC.lt;have B:=f.lt;have O:=hD.below G;have q3:=hG.below G;have P:=G.size;by_cases j8:q<c.body.length
   ·obtain⟨s,tv,v8,n,b0,b1,V,b3,b4,hT⟩:=H4 hD.body rfl q j8;subst v8;have v6:=HN.out.body c.body[q] (Aj j8);have Y:=Ao (Aa j8);obtain⟨a,ha⟩:∃a,c.body[q]=a:=⟨_,rfl⟩;simp only[ha]at b0 b1 V b3 b4 hT v6 Y;clear ha;obtain⟨tq,U,rfl⟩:=Au hT;unfold RA.w at b0;have v3:Hid (∀W,Below w.heap.size w W->W.cell? ⟨s,q*5,none⟩=some (.string (bs a.name))/\W.cell? ⟨s,q*5+1,none⟩=some (.slice tq a.ts.length U)/\W.cell? ⟨s,q*5+2,none⟩=some (.int .i64 (a.pl:Nat))/\W.cell? ⟨s,q*5+3,none⟩=some (.int .i64 (a.af:Nat))/\W.cell? ⟨s,q*5+4,none⟩=some (.bool a.neg)/\s<W.heap.size/\W.ownsRow base 130 3 (.slice tq a.ts.length U) a.ts.length (a.ts.flatMap RT.cells)):=by intro W hW;exact⟨by rw[hW.cell (p:=⟨s,q*5,none⟩) n];exact b0,by rw[hW.cell (p:=⟨s,q*5+1,none⟩) n];exact b1,by rw[hW.cell (p:=⟨s,q*5+2,none⟩) n];exact V,by rw[hW.cell (p:=⟨s,q*5+3,none⟩) n];exact b3,by rw[hW.cell (p:=⟨s,q*5+4,none⟩) n];exact b4,AH n hW.size,Ah hT hW⟩
    clear b0 b1 V b3 b4 hT n;obtain⟨b0,b1,V,b3,b4,n,hT⟩:=v3.out _ G;cases R:a.neg
    ·rw[R]at b4 v3;have HY:=Ao (show H.flatMap (J9 H c a (c.body.drop (q+1)) g)=z by rw[<-bM H c a _ g R,<-Y.out,HX.out]);obtain⟨r,HR⟩:∃r,Hid (c.body.drop (q+1)=r):=⟨_,Ao rfl⟩;rw[HR.out]at HY Y;clear HX;have m0:(((q:Nat):Int)==((c.body.length:Nat):Int))=false:=by rw[Az];omega
     go_wp2_with fail
     go_loopw [9,12] (fun ov iv wr=>∃(i:Nat),i<=H.length/\iv=.int .i64 i/\BB wr w.heap.size w.heap.size ov (((H.take i).flatMap (J9 H c a r g)).map gA)/\Hid ((H.take i).flatMap (J9 H c a r g)=[]->ov=.slice none 0 0)/\Aw wr w.heap.size [.string (bs c.head.name),.slice hq c.head.ts.length l,.int .i64 (c.head.pl:Nat),.int .i64 (c.head.af:Nat),.bool c.head.neg,.slice (some ⟨s,0,none⟩) c.body.length bcap] 71/\Aw wr (w.heap.size+1) [.slice n1 g.length c1,.slice n2 g.length c2] 156/\Below w.heap.size w wr) (fun _ iv _=>H.length-(intOf iv).toNat)
     case atStart=>exact⟨0,by omega,rfl,BB.nil _ _ _,Ao fun _=>rfl,hC,f,G⟩
     case round=>
      clear hC f G e5 q4 B O q3 P b0 b1 V b3 b4 hT n;obtain⟨i,hi,rfl,q2,z7,hC,f,G⟩:=hrel;obtain⟨b0,b1,V,b3,b4,n,hT⟩:=v3.out _ G;have e5:wr.cell? ⟨w.heap.size,5,none⟩=some (.slice (some ⟨s,0,none⟩) c.body.length bcap):=hC.cell 5;have g0:wr.cell? ⟨w.heap.size+1,0,none⟩=some (.slice n1 g.length c1):=f.cell 0;have g1:wr.cell? ⟨w.heap.size+1,1,none⟩=some (.slice n2 g.length c2):=f.cell 1;have q4:=hC.lt;have B:=f.lt;have O:=hD.below G;have q3:=hG.below G;have P:=G.size;by_cases N:i<H.length
      ·obtain⟨C,k7,k6,r0,Q,h0,h1,h2,h3,h4,g9⟩:=Nx O.hold rfl i N;subst r0;have v2:=Ao (show(H.take (i+1)).flatMap (J9 H c a r g)=(H.take i).flatMap (J9 H c a r g)++J9 H c a r g H[i] by rw[Ad N,BG,Ca])
       have t4:=Ao (show((H.take (i+1)).flatMap (J9 H c a r g)).length<=100000 by
           have h1:=Vv H (J9 H c a r g) (i+1);rw[HY.out]at h1
           omega)
       obtain⟨b,hb⟩:∃b,H[i]=b:=⟨_,rfl⟩;simp only[hb]at h0 h1 g9 v2;clear hb;have j5:=Ao (fun(W:World) (hW:Below wr.heap.size wr W)=>aU W bg base b2 n1 n2 c1 c2 g (q3.below hW) b9 (by omega) a tq U (Ah hT hW) (by omega) b k7 k6 (Ah g9 hW));rw[R]at j5;generalize (H.take i).flatMap (J9 H c a r g)=acc at*;have u6:Hid (∀w',Below wr.heap.size wr w'->w'.cell? ⟨w.heap.size+1,0,none⟩=some (.slice n1 g.length c1)/\w'.cell? ⟨w.heap.size+1,1,none⟩=some (.slice n2 g.length c2)/\w'.cell? ⟨w.heap.size,5,none⟩=some (.slice (some ⟨s,0,none⟩) c.body.length bcap)/\w'.cell? ⟨s,q*5,none⟩=some (.string (bs a.name))/\w'.cell? ⟨s,q*5+1,none⟩=some (.slice tq a.ts.length U)/\w'.cell? ⟨s,q*5+2,none⟩=some (.int .i64 (a.pl:Nat))/\w'.cell? ⟨s,q*5+3,none⟩=some (.int .i64 (a.af:Nat))/\w'.cell? ⟨s,q*5+4,none⟩=some (.bool false)/\w'.cell? ⟨C,i*5,none⟩=some (.string (bs b.1))/\w'.cell? ⟨C,i*5+1,none⟩=some (.slice k7 b.2.length k6)/\w'.cell? ⟨C,i*5+2,none⟩=some (.int .i64 0)/\w'.cell? ⟨C,i*5+3,none⟩=some (.int .i64 0)/\w'.cell? ⟨C,i*5+4,none⟩=some (.bool false)):=by intro W hW;exact⟨by rw[hW.cell (p:=⟨w.heap.size+1,0,none⟩) B];exact g0,by rw[hW.cell (p:=⟨w.heap.size+1,1,none⟩) B];exact g1,by rw[hW.cell (p:=⟨w.heap.size,5,none⟩) q4];exact e5,by rw[hW.cell (p:=⟨s,q*5,none⟩) n];exact b0,by rw[hW.cell (p:=⟨s,q*5+1,none⟩) n];exact b1,by rw[hW.cell (p:=⟨s,q*5+2,none⟩) n];exact V,by rw[hW.cell (p:=⟨s,q*5+3,none⟩) n];exact b3,by rw[hW.cell (p:=⟨s,q*5+4,none⟩) n];exact b4,by rw[hW.cell (p:=⟨C,i*5,none⟩) Q];exact h0,by rw[hW.cell (p:=⟨C,i*5+1,none⟩) Q];exact h1,by rw[hW.cell (p:=⟨C,i*5+2,none⟩) Q];exact h2,by rw[hW.cell (p:=⟨C,i*5+3,none⟩) Q];exact h3,by rw[hW.cell (p:=⟨C,i*5+4,none⟩) Q];exact h4⟩
       have k5:w.heap.size+1≠wr.heap.size:=by omega
       have t2:w.heap.size≠wr.heap.size:=by omega
       have I:s≠wr.heap.size:=by omega
       have q0:C≠wr.heap.size:=by omega
       cases hfa:Gy g a b with
       |none=>
        rw[hfa]at j5;have HE:Hid ((H.take (i+1)).flatMap (J9 H c a r g)=acc):=by show _=_;rw[v2.out];unfold J9;rw[hfa,BC]
        go_wp2_with fail
        go_region_held3 (fun w'=>w'.cell? ⟨w.heap.size+1,0,none⟩=some (.slice n1 g.length c1)/\w'.cell? ⟨w.heap.size+1,1,none⟩=some (.slice n2 g.length c2)/\w'.cell? ⟨w.heap.size,5,none⟩=some (.slice (some ⟨s,0,none⟩) c.body.length bcap)/\w'.cell? ⟨s,q*5,none⟩=some (.string (bs a.name))/\w'.cell? ⟨s,q*5+1,none⟩=some (.slice tq a.ts.length U)/\w'.cell? ⟨s,q*5+2,none⟩=some (.int .i64 (a.pl:Nat))/\w'.cell? ⟨s,q*5+3,none⟩=some (.int .i64 (a.af:Nat))/\w'.cell? ⟨s,q*5+4,none⟩=some (.bool false)/\w'.cell? ⟨C,i*5,none⟩=some (.string (bs b.1))/\w'.cell? ⟨C,i*5+1,none⟩=some (.slice k7 b.2.length k6)/\w'.cell? ⟨C,i*5+2,none⟩=some (.int .i64 0)/\w'.cell? ⟨C,i*5+3,none⟩=some (.int .i64 0)/\w'.cell? ⟨C,i*5+4,none⟩=some (.bool false)) (first
            |exact⟨g0,g1,e5,b0,b1,V,b3,b4,h0,h1,h2,h3,h4⟩
            |exact⟨AW g0 B,AW g1 B,AW e5 q4,AW b0 n,AW b1 n,AW V n,AW b3 n,AW b4 n,AW h0 Q,AW h1 Q,AW h2 Q,AW h3 Q,AW h4 Q⟩
            |exact⟨y0,y1,y2,y3,y4,y5,y6,y7,y8,y9,q6,q7,q8⟩
            |exact⟨AW y0 J,AW y1 J,AW y2 X,AW y3 d,AW y4 d,AW y5 d,AW y6 d,AW y7 d,AW y8 t,AW y9 t,AW q6 t,AW q7 t,AW q8 t⟩
            |exact⟨AZ y0 k5,AZ y1 k5,AZ y2 t2,AZ y3 I,AZ y4 I,AZ y5 I,AZ y6 I,AZ y7 I,AZ y8 q0,AZ y9 q0,AZ q6 q0,AZ q7 q0,AZ q8 q0⟩
            |exact⟨AZ (AW y0 J) z1,AZ (AW y1 J) z1,AZ (AW y2 X) u1,AZ (AW y3 d) S,AZ (AW y4 d) S,AZ (AW y5 d) S,AZ (AW y6 d) S,AZ (AW y7 d) S,AZ (AW y8 t) E,AZ (AW y9 t) E,AZ (AW q6 t) E,AZ (AW q7 t) E,AZ (AW q8 t) E⟩) (first
            |(go_at_call 82;refine(j5.out _ (by first|exact(Ag _ wr).drew|exact(Ag _ wr).drew.alloc (Ab _) _)).mono ?_;rintro e w1 ⟨Z,m1,l1,k1,m2,l2,k2,rfl,-⟩;have y:Below wr.heap.size wr w1:=(by first|exact(Ag _ wr).drew.trans Z|exact((Ag _ wr).drew.alloc (Ab _) _).trans (Z.mono (by simp)));(first|(have o:Aw w1 wr.heap.size [.slice none 0 0,.slice none 0 0] 156:=(Aw.new wr.drew [.slice none 0 0,.slice none 0 0] 156).below Z;have u2:=o.cell 0;have u3:=o.cell 1;have r5:=o.frozen;have r6:=o.lt;simp only[List.getElem?_cons_zero,List.getElem?_cons_succ]at u2 u3)|skip);obtain⟨y0,y1,y2,y3,y4,y5,y6,y7,y8,y9,q6,q7,q8⟩:=u6.out w1 y;have J:w.heap.size+1<w1.heap.size:=AH B y.size;have X:w.heap.size<w1.heap.size:=AH q4 y.size;have d:s<w1.heap.size:=AH n y.size;have t:C<w1.heap.size:=AH Q y.size;have z1:=G0 J;have u1:=G0 X;have S:=G0 d;have E:=G0 t))
        all_goals go_wp2_with fail
        all_goals
            refine⟨⟨i+1,N,by go_num,?_,?_,?_,?_,?_⟩,by simp[intOf];omega⟩
            ·rw[HE.out];refine q2.below ?_
             first
              |exact y.alloc y.size _
              |exact(y.setCell (p:=⟨wr.heap.size,0,none⟩) (Ab _) _).setCell (p:=⟨wr.heap.size,1,none⟩) (Ab _) _
            ·rw[HE.out];exact z7
            ·refine hC.below ?_
             first
              |exact y.alloc y.size _
              |exact(y.setCell (p:=⟨wr.heap.size,0,none⟩) (Ab _) _).setCell (p:=⟨wr.heap.size,1,none⟩) (Ab _) _
            ·refine f.below ?_
             first
              |exact y.alloc y.size _
              |exact(y.setCell (p:=⟨wr.heap.size,0,none⟩) (Ab _) _).setCell (p:=⟨wr.heap.size,1,none⟩) (Ab _) _
            ·refine G.trans (Below.mono ?_ P)
             first
              |exact y.alloc y.size _
              |exact(y.setCell (p:=⟨wr.heap.size,0,none⟩) (Ab _) _).setCell (p:=⟨wr.heap.size,1,none⟩) (Ab _) _
       |some g'=>
        rw[hfa]at j5;have HE:Hid ((H.take (i+1)).flatMap (J9 H c a r g)=acc++FP H c r g'):=by show _=_;rw[v2.out];unfold J9;rw[hfa]
        have p3:=aY hfa;go_wp2_with fail
        go_cut [13,14] from 73 to 86 (fun nv r7 wx=>r7=.bool true/\∃(NB:Nat) (m1 m2:Option Addr) (k1 k2:Nat),nv=.pointer (some ⟨NB,0,none⟩)/\wr.heap.size<=NB/\Aw wx NB [.slice m1 g'.length k1,.slice m2 g'.length k2] 156/\JO wx wr.heap.size (.slice m1 g'.length k1) (.slice m2 g'.length k2) g'/\Hid (g'=[]->m1=none/\k1=0/\m2=none/\k2=0)/\Below wr.heap.size wr wx)
        case first=>
            go_region_held3 (fun w'=>w'.cell? ⟨w.heap.size+1,0,none⟩=some (.slice n1 g.length c1)/\w'.cell? ⟨w.heap.size+1,1,none⟩=some (.slice n2 g.length c2)/\w'.cell? ⟨w.heap.size,5,none⟩=some (.slice (some ⟨s,0,none⟩) c.body.length bcap)/\w'.cell? ⟨s,q*5,none⟩=some (.string (bs a.name))/\w'.cell? ⟨s,q*5+1,none⟩=some (.slice tq a.ts.length U)/\w'.cell? ⟨s,q*5+2,none⟩=some (.int .i64 (a.pl:Nat))/\w'.cell? ⟨s,q*5+3,none⟩=some (.int .i64 (a.af:Nat))/\w'.cell? ⟨s,q*5+4,none⟩=some (.bool false)/\w'.cell? ⟨C,i*5,none⟩=some (.string (bs b.1))/\w'.cell? ⟨C,i*5+1,none⟩=some (.slice k7 b.2.length k6)/\w'.cell? ⟨C,i*5+2,none⟩=some (.int .i64 0)/\w'.cell? ⟨C,i*5+3,none⟩=some (.int .i64 0)/\w'.cell? ⟨C,i*5+4,none⟩=some (.bool false)) (first
             |exact⟨g0,g1,e5,b0,b1,V,b3,b4,h0,h1,h2,h3,h4⟩
             |exact⟨AW g0 B,AW g1 B,AW e5 q4,AW b0 n,AW b1 n,AW V n,AW b3 n,AW b4 n,AW h0 Q,AW h1 Q,AW h2 Q,AW h3 Q,AW h4 Q⟩
             |exact⟨y0,y1,y2,y3,y4,y5,y6,y7,y8,y9,q6,q7,q8⟩
             |exact⟨AW y0 J,AW y1 J,AW y2 X,AW y3 d,AW y4 d,AW y5 d,AW y6 d,AW y7 d,AW y8 t,AW y9 t,AW q6 t,AW q7 t,AW q8 t⟩
             |exact⟨AZ y0 k5,AZ y1 k5,AZ y2 t2,AZ y3 I,AZ y4 I,AZ y5 I,AZ y6 I,AZ y7 I,AZ y8 q0,AZ y9 q0,AZ q6 q0,AZ q7 q0,AZ q8 q0⟩
             |exact⟨AZ (AW y0 J) z1,AZ (AW y1 J) z1,AZ (AW y2 X) u1,AZ (AW y3 d) S,AZ (AW y4 d) S,AZ (AW y5 d) S,AZ (AW y6 d) S,AZ (AW y7 d) S,AZ (AW y8 t) E,AZ (AW y9 t) E,AZ (AW q6 t) E,AZ (AW q7 t) E,AZ (AW q8 t) E⟩) (first
             |(go_at_call 82;refine(j5.out _ (by first|exact(Ag _ wr).drew|exact(Ag _ wr).drew.alloc (Ab _) _)).mono ?_;rintro e w1 ⟨Z,m1,l1,k1,m2,l2,k2,rfl,r1⟩;obtain⟨rfl,rfl,z9,d5⟩:=r1 g' rfl;have y:Below wr.heap.size wr w1:=(by first|exact(Ag _ wr).drew.trans Z|exact((Ag _ wr).drew.alloc (Ab _) _).trans (Z.mono (by simp)));(first|(have o:Aw w1 wr.heap.size [.slice none 0 0,.slice none 0 0] 156:=(Aw.new wr.drew [.slice none 0 0,.slice none 0 0] 156).below Z;have u2:=o.cell 0;have u3:=o.cell 1;have r5:=o.frozen;have r6:=o.lt;simp only[List.getElem?_cons_zero,List.getElem?_cons_succ]at u2 u3)|skip);obtain⟨y0,y1,y2,y3,y4,y5,y6,y7,y8,y9,q6,q7,q8⟩:=u6.out w1 y;have J:w.heap.size+1<w1.heap.size:=AH B y.size;have X:w.heap.size<w1.heap.size:=AH q4 y.size;have d:s<w1.heap.size:=AH n y.size;have t:C<w1.heap.size:=AH Q y.size;have z1:=G0 J;have u1:=G0 X;have S:=G0 d;have E:=G0 t))
            all_goals go_wp2_with fail
            all_goals go_meet
            all_goals
             have k3:w1.ownsRow wr.heap.size 9 1 (.slice m1 g'.length k1) g'.length (g'.map fun p=>.string (bs p.1)):=BS z9.names (by first|exact Ab _|simp);have k4:w1.ownsRow wr.heap.size 9 1 (.slice m2 g'.length k2) g'.length (g'.map fun p=>.string (bs p.2)):=BS z9.words (by first|exact Ab _|simp)
             first
              |exact⟨rfl,w1.heap.size,m1,m2,k1,k2,rfl,y.size,Aw.new w1 [.slice m1 g'.length k1,.slice m2 g'.length k2] 156,⟨k3.alloc _,k4.alloc _⟩,Ao d5,y.alloc y.size _⟩
              |exact⟨rfl,wr.heap.size,m1,m2,k1,k2,rfl,Ab _,(o.setCell 0 _).setCell 1 _,⟨AJ (AJ k3 _ _ (Av k3 o (by decide))) _ _ (Av k3 o (by decide)),AJ (AJ k4 _ _ (Av k4 o (by decide))) _ _ (Av k4 o (by decide))⟩,Ao d5,(y.setCell (p:=⟨wr.heap.size,0,none⟩) (Ab _) _).setCell (p:=⟨wr.heap.size,1,none⟩) (Ab _) _⟩
        case rest=>
            obtain⟨hok,NB,m1,m2,k1,k2,r2,p7,o,z9,t5,A⟩:=hcut;subst hok;subst r2;have j1:=hC.below A;have x0:wc.cell? ⟨w.heap.size,0,none⟩=some (.string (bs c.head.name)):=j1.cell 0;have x1:wc.cell? ⟨w.heap.size,1,none⟩=some (.slice hq c.head.ts.length l):=j1.cell 1;have x2:wc.cell? ⟨w.heap.size,2,none⟩=some (.int .i64 (c.head.pl:Nat)):=j1.cell 2;have x3:wc.cell? ⟨w.heap.size,3,none⟩=some (.int .i64 (c.head.af:Nat)):=j1.cell 3;have x4:wc.cell? ⟨w.heap.size,4,none⟩=some (.bool c.head.neg):=j1.cell 4;have x5:wc.cell? ⟨w.heap.size,5,none⟩=some (.slice (some ⟨s,0,none⟩) c.body.length bcap):=j1.cell 5;have v0:wc.cell? ⟨NB,0,none⟩=some (.slice m1 g'.length k1):=o.cell 0;have v1:wc.cell? ⟨NB,1,none⟩=some (.slice m2 g'.length k2):=o.cell 1;have c6:=j1.lt;have c5:=o.lt;have b5:acc.length+(FP H c r g').length<=100000:=by have h1:=t4.out;rw[HE.out,Am]at h1;exact h1
            have z4:=Ao (u5.out wc (q+1) g' wr.heap.size m1 m2 k1 k2 j8 (by omega) (O.below A) z9 t5.out (by omega) (by rw[HR.out];omega));rw[HR.out]at z4;obtain⟨L,HL⟩:∃L,Hid (FP H c r g'=L):=⟨_,Ao rfl⟩;rw[HL.out]at z4 HE b5;have p6:=G.trans (A.mono P);have p1:=f.below A;have j2:=q2.below A;obtain⟨oo,z2,d6⟩:=q2.form;simp only[AK]at d6;subst d6;clear q2 O q3 u5;by_cases j4:L=[]
            ·have u4:=Ao (show(H.take (i+1)).flatMap (J9 H c a r g)=acc by rw[HE.out,j4,BC]);have k9:=Ao j4;clear j4;go_wp2_with (first|(go_at_call 114;refine(z4.out).mono ?_;rintro e w2 ⟨v,rfl,g5,g3,M⟩;have hv:=g3 k9.out;subst hv;obtain⟨rb,q5,z0,k8⟩:=j2.below M;rw[AK]at q5)|(at_builtin;refine wpList_append_own_none rfl _ _ 64 rfl w.heap.size 69 i1 5 underlying64 v9 (.slice oo acc.length z2) acc.length rb.flatten rfl (by exact q5) rfl ?_));have K:=A.trans (M.mono A.size);refine⟨⟨i+1,N,by go_num,?_,?_,hC.below K,f.below K,G.trans (K.mono P)⟩,by simp[intOf];omega⟩
             ·rw[u4.out];exact j2.below M
             ·rw[u4.out];exact z7
            ·have g8:0<L.length:=List.length_pos_iff.2 j4;have k9:=Ao j4;clear j4;have m3:=A.size;go_wp2_with (first|(go_at_call 114;refine(z4.out).mono ?_;rintro e w2 ⟨v,rfl,g5,g3,M⟩;obtain⟨ra,j9,u0,d8⟩:=g5.mono (own':=w.heap.size) (base':=w.heap.size) (by omega) (by omega);obtain⟨m4,r8,rfl⟩:=Au j9;rw[AK]at j9 u0;obtain⟨gv,rfl⟩:=S7 j9 g8;obtain⟨rb,q5,z0,k8⟩:=j2.below M;rw[AK]at q5 z0;have t9:ra.flatten.length=L.length*5:=j9.1;have v7:=YA (by rw[AK];exact u0) d8;have p5:=M.size)|(at_builtin;refine Bv _ rfl _ _ 64 rfl w.heap.size 69 i1 _ 5 64 underlying64 v9 d9 t0 t1 rfl (by decide) (.slice oo acc.length z2) acc.length rb.flatten rfl (by exact q5) ⟨gv,0,none⟩ L.length r8 ra.flatten rfl g8 t9 (fun j u hj=>j9.cells (g:=gv) rfl j u hj) v7 (by unfold maxLen;omega) (by omega) (by omega) ?_;intro g7 p0 w7 r4 k0 c8));have K:=A.trans (M.mono A.size);have q1:=G.trans (K.mono P);have t6:Below w.heap.size w w7:=q1.grown k0 q1.size (A9 q5);have t7:=(hC.below K).grown k0 (Av q5 (hC.below K) (by decide));have t8:=(f.below K).grown k0 (Av q5 (f.below K) (by decide));have g6:=BB.more (b:=acc.map gA) (b2:=L.map gA) (v:=.slice oo acc.length z2) (by rw[AK];exact z0) k8 (by rw[AK];exact u0) d8 (by rw[AK];exact q5) (by rw[AK,AK];exact r4) k0;refine⟨⟨i+1,N,by go_num,?_,?_,t7,t8,t6⟩,by simp[intOf];omega⟩
             ·rw[HE.out,A8];exact g6
             ·refine Ao (fun e=>?_);rw[HE.out]at e;exact absurd (List.append_eq_nil_iff.1 e).2 k9.out
      ·have j7:i=H.length:=by omega
       have hz:(H.take i).flatMap (J9 H c a r g)=z:=by rw[j7,AL,HY.out]
       rw[hz]at q2 z7;clear j7 hz;go_wp2_with fail
       go_ret
       exact⟨_,rfl,q2,z7.out,G⟩
    ·rw[R]at b4;have z5:=Ao (show FP H c (c.body.drop (q+1)) g=z by rw[<-HX.out,Y.out,bO H c a _ g R]);clear HX Y;go_wp2_with fail;exact⟨⟨q+1,by omega,j8,by go_num,z5,hC,f,G⟩,by simp[intOf];omega⟩
   ·have d7:q=c.body.length:=by omega
    have HY:=Ao (show(if VT H g c.body=true then [] else [FE g c.head])=z by
     have h:VG H c g=z:=by rw[<-bN,<-HX.out,d7,AR]
     exact h)
    clear HX;subst d7;go_wp2_with fail
    go_loopw [10] (fun iv wr=>∃(i:Nat),i<=c.body.length/\iv=.int .i64 i/\Hid (VT H g (c.body.drop i)=VT H g c.body)/\Aw wr w.heap.size [.string (bs c.head.name),.slice hq c.head.ts.length l,.int .i64 (c.head.pl:Nat),.int .i64 (c.head.af:Nat),.bool c.head.neg,.slice bo c.body.length bcap] 71/\Aw wr (w.heap.size+1) [.slice n1 g.length c1,.slice n2 g.length c2] 156/\Below w.heap.size w wr) (fun iv _=>c.body.length-(intOf iv).toNat)
    case atStart=>exact⟨0,by omega,rfl,rfl,hC,f,G⟩
    case round=>
     clear hC f G e5 q4 B O q3 P;obtain⟨i,hi,rfl,HX,hC,f,G⟩:=hrel;have e5:wr.cell? ⟨w.heap.size,5,none⟩=some (.slice bo c.body.length bcap):=hC.cell 5;have g0:wr.cell? ⟨w.heap.size+1,0,none⟩=some (.slice n1 g.length c1):=f.cell 0;have g1:wr.cell? ⟨w.heap.size+1,1,none⟩=some (.slice n2 g.length c2):=f.cell 1;have q4:=hC.lt;have B:=f.lt;have O:=hD.below G;have q3:=hG.below G;have P:=G.size;by_cases N:i<c.body.length
     ·obtain⟨s,tv,v8,n,b0,b1,V,b3,b4,hT⟩:=H4 O.body rfl i N;subst v8;have v6:=HN.out.body c.body[i] (Aj N);have Y:=Ao (show VT H g (c.body.drop i)=((c.body[i].neg&&decide (FE g c.body[i]∈H))||VT H g (c.body.drop (i+1))) by rw[Aa N];rfl);obtain⟨a,ha⟩:∃a,c.body[i]=a:=⟨_,rfl⟩;simp only[ha]at b0 b1 V b3 b4 hT v6 Y;clear ha;obtain⟨tq,U,rfl⟩:=Au hT;unfold RA.w at b0;have j6:=Ao (TM wr.drew bg base n1 n2 c1 c2 g ⟨q3.names,q3.words⟩ (by omega) a tq U (by exact hT) (by omega));obtain⟨fb,z3⟩:∃fb,Hid (FE g a=fb):=⟨_,Ao rfl⟩;rw[z3.out]at j6 Y;have u7:=Ao (fun(W:World) (hW:Below wr.heap.size wr W) (j0:Option Addr) (j3:Nat) h=>Wq W own b2 wr.heap.size ao cap H (O.hold.below hW) (by omega) (fun x hx=>Ay (HN.out.cd x hx) (by omega)) fb j0 j3 h);obtain⟨bd,t3⟩:∃bd,Hid (decide (fb∈H)=bd):=⟨_,Ao rfl⟩;rw[t3.out]at u7 Y;go_wp2_with fail
      go_region_with (first|(go_at_call 154;refine(j6.out).mono ?_;rintro e w1 ⟨j0,j3,rfl,v4,Z⟩)|(go_at_call 115;refine(u7.out _ ((Ag _ wr).drew.trans Z) j0 j3 (by exact v4)).mono ?_;rintro e w2 ⟨rfl,M⟩))
      all_goals
       have q9:Below wr.heap.size wr w2:=((Ag _ wr).drew.trans Z).trans (M.mono Z.size);have z8:=hC.below q9;have g4:=f.below q9;have q1:=G.trans (q9.mono P);have f5:w2.cell? ⟨w.heap.size,5,none⟩=some (.slice (some ⟨s,0,none⟩) c.body.length bcap):=z8.cell 5;have f4:w2.cell? ⟨s,i*5+4,none⟩=some (.bool a.neg):=by rw[q9.cell (p:=⟨s,i*5+4,none⟩) n];exact b4
       have p4:=z8.lt;have p2:s<w2.heap.size:=AH n q9.size;cases hnb:(a.neg&&bd)
       ·have z5:=Ao (show VT H g (c.body.drop (i+1))=VT H g c.body by rw[<-HX.out,Y.out,hnb,CJ]);cases R:a.neg
        ·rw[R]at f4;clear hnb HX Y;go_wp2_with fail;exact⟨⟨i+1,N,by go_num,z5,z8,g4,q1⟩,by simp[intOf];omega⟩
        ·rw[R]at f4;rw[R,BD]at hnb;subst hnb;clear HX Y;go_wp2_with fail;exact⟨⟨i+1,N,by go_num,z5,z8,g4,q1⟩,by simp[intOf];omega⟩
       ·rw[Cp]at hnb;obtain⟨R,b6⟩:=hnb;have hz:z=[]:=by rw[<-HY.out,<-HX.out,Y.out,R,b6];rfl
        subst hz;rw[R]at f4;subst b6;clear HX Y HY;go_wp2_with fail
        go_ret
        exact⟨_,rfl,BB.nil _ _ _,fun _=>rfl,q1⟩
     ·have j7:i=c.body.length:=by omega
      have hz:z=[FE g c.head]:=by rw[<-HY.out,<-HX.out,j7,AR];rfl
      clear j7 HX HY;have c0:=HN.out.head;obtain⟨fb,z3⟩:∃fb,Hid (FE g c.head=fb):=⟨_,Ao rfl⟩;rw[z3.out]at hz;subst hz;have j6:=Ao (fun(W:World) (hW:Below wr.heap.size wr W)=>TM W bg base n1 n2 c1 c2 g (q3.below hW) (by omega) c.head hq l (Ah O.head hW) (by omega));rw[z3.out]at j6;have d0:wr.cell? ⟨w.heap.size,0,none⟩=some (.string (bs c.head.name)):=hC.cell 0;have d1:wr.cell? ⟨w.heap.size,1,none⟩=some (.slice hq c.head.ts.length l):=hC.cell 1;have d2:wr.cell? ⟨w.heap.size,2,none⟩=some (.int .i64 (c.head.pl:Nat)):=hC.cell 2;have d3:wr.cell? ⟨w.heap.size,3,none⟩=some (.int .i64 (c.head.af:Nat)):=hC.cell 3;have d4:wr.cell? ⟨w.heap.size,4,none⟩=some (.bool c.head.neg):=hC.cell 4;go_wp2_with (first|(go_at_call 154;refine(j6.out wr (Ag _ _)).mono ?_;rintro e w1 ⟨j0,j3,rfl,v4,Z⟩)|(at_builtin;refine Bv _ rfl _ _ 64 rfl w.heap.size 69 i1 _ 5 64 underlying64 v9 d9 t0 t1 rfl (by decide) (.slice none 0 0) 0 [] rfl (Ak _ _ _ _) ⟨w1.heap.size,0,none⟩ 1 1 [.string (bs fb.1),.slice j0 fb.2.length j3,.int .i64 0,.int .i64 0,.bool false] rfl (by decide) rfl (by exact AS w1 [.string (bs fb.1),.slice j0 fb.2.length j3,.int .i64 0,.int .i64 0,.bool false] 69) (by intro u hu;simp at hu;rcases hu with rfl|rfl|rfl|rfl|rfl<;>rfl) (by unfold maxLen;omega) (by omega) (by have:=Z.size;simp;omega) ?_;intro g2 r9 w2 r3 b7 c7))
      go_ret
      have M:Below w.heap.size w w2:=((G.trans (Z.mono P)).alloc (Ay P Z.size) _).grown b7 (by have:=Z.size;simp;omega) (by simp[Value.ownBlock]);refine⟨_,rfl,⟨[[.string (bs fb.1),.slice j0 fb.2.length j3,.int .i64 0,.int .i64 0,.bool false]],by simpa using r3,rfl,?_⟩,fun e=>by simp at e,M⟩;intro j x cs h1 h2
      cases j with
      |zero=>simp at h1 h2;subst h1 h2;refine⟨_,rfl,?_⟩;rw[G7];exact(BS (Ah v4 (Ac w1 _)) P).kept b7 (by cases j0 with|none=>exact .inl rfl|some q=>exact .inr (by simp[Value.ownBlock]))
      |succ j=>simp at h1
end
end Go.Proofs.YtpbfiffgcgnidaaGreatDoor
