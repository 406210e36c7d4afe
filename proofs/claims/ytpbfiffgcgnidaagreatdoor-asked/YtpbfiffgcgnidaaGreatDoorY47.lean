import Derived.Test.YtpbfiffgcgnidaaGreatDoorYal
import Derived.Test.YtpbfiffgcgnidaaGreatDoorY29
import Derived.Test.YtpbfiffgcgnidaaGreatDoorY35
import Derived.Test.YtpbfiffgcgnidaaGreatDoorY45
namespace Go.Proofs.YtpbfiffgcgnidaaGreatDoor
set_option maxRecDepth 100000
set_option maxHeartbeats 4000000
set_option linter.unusedSimpArgs false
open Go.Proofs.Tryz
section
attribute [local go_sem] AE As
open Go.RowKit Go.WideMaps Go.Maps
theorem aW(g:GV)(ts:List RT)(xs:List B8)(k:Nat)(q:k<ts.length)(hx:k<xs.length):Fb g (ts.drop k) (xs.drop k)=if ts[k].var=true then(match IU g ts[k].s with
 |some u=>if u=xs[k] then Fb g (ts.drop (k+1)) (xs.drop (k+1)) else none
 |none=>Fb (g++[(ts[k].s,xs[k])]) (ts.drop (k+1)) (xs.drop (k+1)))
 else if ts[k].s=xs[k] then Fb g (ts.drop (k+1)) (xs.drop (k+1)) else none:=by
 rw[Aa q,Aa hx,Fb]
 split
 ·cases IU g ts[k].s<;>rfl
 ·rfl
def R8(w:World)(o:Option GV)(e:Ending)(w':World):Prop:=Below w.heap.size w w'/\∃k z q v y j,e=.returned (.tuple #[.agg #[.slice k z q,.slice v y j],.bool o.isSome])/\∀g',o=some g'->z=g'.length/\y=g'.length/\JO w' w.heap.size (.slice k z q) (.slice v y j) g'/\(g'=[]->k=none/\q=0/\v=none/\j=0)
theorem Gt{w:World}{base g n cap:Nat}{e:TypeId}{xs:List Value}(h:w.ownsRow base e 1 (.slice (some ⟨g,0,none⟩) n cap) n xs):∀j u,xs[j]? =some u->w.cell? ((⟨g,0,none⟩:Addr).add j)=some u:=fun j u q=>h.cells (g:=g) rfl j u q
theorem gN(w:World)(u g:Option Addr)(j z y k:Nat)(a:RA)(qa:Option Addr)(r:Nat)(x:BA)(c:Option Addr)(p:Nat)(q:¬(a.name=x.1/\a.ts.length=x.2.length)):
 Calls prog 82 #[.agg #[.slice u y j,.slice g k z],.agg #[.string (bs a.name),.slice qa a.ts.length r,.int .i64 (a.pl:Nat),.int .i64 (a.af:Nat),.bool a.neg],.agg #[.string (bs x.1),.slice c x.2.length p,.int .i64 0,.int .i64 0,.bool false]] w fun e w'=>R8 w none e w':=by
 have b:Below w.heap.size w (((w.alloc (.cells #[.slice u y j,.slice g k z] 156)).alloc (.cells #[.string (bs a.name),.slice qa a.ts.length r,.int .i64 (a.pl:Nat),.int .i64 (a.af:Nat),.bool a.neg] 69)).alloc (.cells #[.string (bs x.1),.slice c x.2.length p,.int .i64 0,.int .i64 0,.bool false] 69)):=(((Ac w _).alloc (by simp) _).alloc (by simp;omega) _);have hq:=D4 a.name x.1;by_cases hd:a.name=x.1
 ·have t:((bs a.name).toList != (bs x.1).toList)=false:=by rw[bne,hq];simpa using hd
  have d:((bs a.name).toList==(bs x.1).toList)=true:=by rw[hq];simpa using hd
  have m:¬a.ts.length=x.2.length:=fun h=>q ⟨hd,h⟩;have q0:(((a.ts.length:Nat):Int) != ((x.2.length:Nat):Int))=true:=by rw[GG];omega
  clear hd hq q m;go_enter func82,ntmps82;go_wp2_with fail;refine Aq (v:=.tuple #[.agg #[.slice u y j,.slice g k z],.bool false]) (by simp[results,results82,go_sem]) rfl ⟨b.alloc (by simp;omega) _,u,y,j,g,k,z,rfl,by simp⟩
 ·have t:((bs a.name).toList != (bs x.1).toList)=true:=by rw[bne,hq];simpa using hd
  have d:((bs a.name).toList==(bs x.1).toList)=false:=by rw[hq];simpa using hd
  clear hd hq q;go_enter func82,ntmps82;go_wp2_with fail;refine Aq (v:=.tuple #[.agg #[.slice u y j,.slice g k z],.bool false]) (by simp[results,results82,go_sem]) rfl ⟨b.alloc (by simp;omega) _,u,y,j,g,k,z,rfl,by simp⟩
end
section
attribute [local go_sem] AE As
open Go.RowKit Go.WideMaps Go.Maps
def CN(x:B8):Value:=.string (bs x)
structure UB(w wr:World)(gc ac xc:List Value)(nv wv:Value)(ns ws:List B8):Prop where
 g0:Aw wr w.heap.size gc 156
 a0:Aw wr (w.heap.size+1) ac 69
 x0:Aw wr (w.heap.size+1+1) xc 69
 r0:Aw wr (w.heap.size+1+1+1) [.slice none 0 0,.slice none 0 0] 156
 ob:Aw wr (w.heap.size+1+1+1+1) [nv,wv] 156
 na:wr.ownsRow w.heap.size 9 1 nv ns.length (ns.map CN)
 wo:wr.ownsRow w.heap.size 9 1 wv ws.length (ws.map CN)
 off:Y5 nv wv
 cf:Below w.heap.size w wr
section
variable {w wr:World} {gc ac xc:List Value} {nv wv:Value} {ns ws:List B8}
theorem UB.below(h:UB w wr gc ac xc nv wv ns ws){j:World}(q:Below wr.heap.size wr j):UB w j gc ac xc nv wv ns ws:=
 ⟨h.g0.below q,h.a0.below q,h.x0.below q,h.r0.below q,h.ob.below q,Ah h.na q,Ah h.wo q,h.off,h.cf.trans (q.mono h.cf.size)⟩
theorem UB.drew(h:UB w wr gc ac xc nv wv ns ws):UB w wr.drew gc ac xc nv wv ns ws:=⟨h.g0,h.a0,h.x0,h.r0,h.ob,h.na,h.wo,h.off,h.cf.drew⟩
theorem UB.name(h:UB w wr gc ac xc nv wv ns ws)(vs:List B8)(m:Nat)(b:m=vs.length){y cap:Nat}{w1:World}(g:w1.ownsRow w.heap.size 9 1 (.slice (some ⟨y,0,none⟩) (ns.length+m) cap) (ns.length+m) (ns.map CN++vs.map CN))(z:wr.grownBy w1 nv.ownBlock)(d:some y=nv.ownBlock\/y=wr.heap.size):
 UB w (w1.setCell ⟨w.heap.size+1+1+1+1,0,none⟩ (.slice (some ⟨y,0,none⟩) (ns.length+m) cap)) gc ac xc (.slice (some ⟨y,0,none⟩) (ns.length+m) cap) wv (ns++vs) ws:=by
 subst b;have q:=h.ob.grown z (Av h.na h.ob (by decide))
 have j:=h.wo.kept z (by
  cases hw:wv.ownBlock with
  |none=>exact .inl rfl
  |some k=>exact .inr (fun e=>h.off k e.symm hw))
 refine⟨(h.g0.grown z (Av h.na h.g0 (by decide))).setOther _ _ (by simp only[];omega),(h.a0.grown z (Av h.na h.a0 (by decide))).setOther _ _ (by simp only[];omega),(h.x0.grown z (Av h.na h.x0 (by decide))).setOther _ _ (by simp only[];omega),(h.r0.grown z (Av h.na h.r0 (by decide))).setOther _ _ (by simp only[];omega),q.setCell 0 _,?_,AJ j _ _ (Av j q (by decide)),?_,(h.cf.grown z h.cf.size (A9 h.na)).setCell (by simp only[];omega) _⟩
 ·rw[Am,A8];exact AJ g _ _ (Av g q (by decide))
 ·intro k u v;simp only[Value.ownBlock,Al]at u;rcases d with e|e
  ·exact h.off k (by rw[<-e,u]) v
  ·have:=(h.wo.lt k v).2;omega
theorem UB.word(h:UB w wr gc ac xc nv wv ns ws)(vs:List B8)(m:Nat)(b:m=vs.length){y cap:Nat}{w1:World}(g:w1.ownsRow w.heap.size 9 1 (.slice (some ⟨y,0,none⟩) (ws.length+m) cap) (ws.length+m) (ws.map CN++vs.map CN))(z:wr.grownBy w1 wv.ownBlock)(d:some y=wv.ownBlock\/y=wr.heap.size):
 UB w (w1.setCell ⟨w.heap.size+1+1+1+1,1,none⟩ (.slice (some ⟨y,0,none⟩) (ws.length+m) cap)) gc ac xc nv (.slice (some ⟨y,0,none⟩) (ws.length+m) cap) ns (ws++vs):=by
 subst b;have q:=h.ob.grown z (Av h.wo h.ob (by decide))
 have j:=h.na.kept z (by
  cases hw:nv.ownBlock with
  |none=>exact .inl rfl
  |some k=>exact .inr (fun e=>h.off k hw e.symm))
 refine⟨(h.g0.grown z (Av h.wo h.g0 (by decide))).setOther _ _ (by simp only[];omega),(h.a0.grown z (Av h.wo h.a0 (by decide))).setOther _ _ (by simp only[];omega),(h.x0.grown z (Av h.wo h.x0 (by decide))).setOther _ _ (by simp only[];omega),(h.r0.grown z (Av h.wo h.r0 (by decide))).setOther _ _ (by simp only[];omega),q.setCell 1 _,AJ j _ _ (Av j q (by decide)),?_,?_,(h.cf.grown z h.cf.size (A9 h.wo)).setCell (by simp only[];omega) _⟩
 ·rw[Am,A8];exact AJ g _ _ (Av g q (by decide))
 ·intro k u v;simp only[Value.ownBlock,Al]at v;rcases d with e|e
  ·exact h.off k u (by rw[<-e,v])
  ·have:=(h.na.lt k u).2;omega
end
theorem Ox{w:World}{base:Nat}{nv wv:Value}{g:GV}:JO w base nv wv g↔w.ownsRow base 9 1 nv (g.map Prod.fst).length ((g.map Prod.fst).map CN)/\w.ownsRow base 9 1 wv (g.map Prod.snd).length ((g.map Prod.snd).map CN):=by rw[C6,C6,AK,AK];exact⟨fun h=>⟨h.names,h.words⟩,fun h=>⟨h.1,h.2⟩⟩
theorem UB.new(w:World)(gc ac xc:List Value):UB w (((((w.alloc (.cells gc.toArray 156)).alloc (.cells ac.toArray 69)).alloc (.cells xc.toArray 69)).alloc (.cells #[.slice none 0 0,.slice none 0 0] 156)).alloc (.cells #[.slice none 0 0,.slice none 0 0] 156)) gc ac xc (.slice none 0 0) (.slice none 0 0) [] []:=by
 refine⟨((((Aw.new w gc _).alloc _).alloc _).alloc _).alloc _,?_,?_,?_,?_,Ak _ _ _ _,Ak _ _ _ _,by intro k q;simp[Value.ownBlock]at q,(((((Ac w _).alloc (by simp) _).alloc (by simp;omega) _).alloc (by simp;omega) _).alloc (by simp;omega) _)⟩
 ·have h:=(((Aw.new (w.alloc (.cells gc.toArray 156)) ac 69).alloc (.cells xc.toArray 69)).alloc (.cells #[.slice none 0 0,.slice none 0 0] 156)).alloc (.cells #[.slice none 0 0,.slice none 0 0] 156);simp only[EL]at h;exact h
 ·have h:=((Aw.new ((w.alloc (.cells gc.toArray 156)).alloc (.cells ac.toArray 69)) xc 69).alloc (.cells #[.slice none 0 0,.slice none 0 0] 156)).alloc (.cells #[.slice none 0 0,.slice none 0 0] 156);simp only[EL]at h;exact h
 ·have h:=(Aw.new (((w.alloc (.cells gc.toArray 156)).alloc (.cells ac.toArray 69)).alloc (.cells xc.toArray 69)) [.slice none 0 0,.slice none 0 0] 156).alloc (.cells #[.slice none 0 0,.slice none 0 0] 156);simp only[EL]at h;exact h
 ·have h:=Aw.new ((((w.alloc (.cells gc.toArray 156)).alloc (.cells ac.toArray 69)).alloc (.cells xc.toArray 69)).alloc (.cells #[.slice none 0 0,.slice none 0 0] 156)) [.slice none 0 0,.slice none 0 0] 156;simp only[EL]at h;exact h
theorem Ky(g:GV):(g.map Prod.fst).length=g.length/\(g.map Prod.snd).length=g.length:=by simp
theorem jI{w:World}{base:Nat}{q:Option Addr}{j:Nat}{x:BA}(h:w.ownsRow base 130 3 (.slice q x.2.length j) x.2.length ((gA x).ts.flatMap RT.cells))(k:Nat)(z:k<x.2.length):∃g,q=some ⟨g,0,none⟩/\g<w.heap.size/\w.cell? ⟨g,k*3,none⟩=some (.string (bs x.2[k])):=by rw[<-G7]at h;obtain⟨g,h1,h2,h3,_,_⟩:=FM h k (by rw[G7];exact z);refine⟨g,h1,h2,?_⟩;rw[h3];simp[gA,gT,RT.w]
def dI(w wr:World)(ts:List RT)(xs:List B8)(ac xc:List Value)(z:Option GV)(k:Nat):Prop:=∃(gk:GV) (u:Option Addr) (b f1:Nat) (g:Option Addr) (d f2:Nat) (q:Option Addr) (y:Nat) (j:Option Addr) (v:Nat),Hid (Fb gk (ts.drop k) (xs.drop k)=z)/\gk.length<=500+k/\UB w wr [.slice u b f1,.slice g d f2] ac xc (.slice q gk.length y) (.slice j gk.length v) (gk.map Prod.fst) (gk.map Prod.snd)/\(gk=[]->q=none/\y=0/\j=none/\v=0)
theorem aS(w:World)(base b1 b2:Nat)(n1 n2:Option Addr)(c1 c2:Nat)(g:GV)(hG:JO w base (.slice n1 g.length c1) (.slice n2 g.length c2) g)(k7:g=[]->n1=none/\c1=0/\n2=none/\c2=0)(v8:g.length<=500)
 (a:RA)(qa:Option Addr)(ca:Nat)(hA:w.ownsRow b1 130 3 (.slice qa a.ts.length ca) a.ts.length (a.ts.flatMap RT.cells))(d7:a.ts.length<=100)(x:BA)(qx:Option Addr)(M:Nat)(hX:w.ownsRow b2 130 3 (.slice qx x.2.length M) x.2.length ((gA x).ts.flatMap RT.cells))(hd:a.name=x.1)(hl:a.ts.length=x.2.length):
 Calls prog 82 #[.agg #[.slice n1 g.length c1,.slice n2 g.length c2],.agg #[.string (bs a.name),.slice qa a.ts.length ca,.int .i64 (a.pl:Nat),.int .i64 (a.af:Nat),.bool a.neg],.agg #[.string (bs x.1),.slice qx x.2.length M,.int .i64 0,.int .i64 0,.bool false]] w fun e w'=>R8 w (Gy g a x) e w':=by
 obtain⟨i1,L,j2,j3,j4⟩:=Bc Hk;obtain⟨z,HZ⟩:∃z,Hid (Fb g a.ts x.2=z):=⟨_,rfl⟩;have hz:Gy g a x=z:=by unfold Gy;rw[Ai ⟨hd,hl⟩,HZ.out]
 rw[hz];clear hz;have hq:((bs a.name).toList != (bs x.1).toList)=false:=by rw[bne,D4];simpa using hd
 have t6:((bs a.name).toList==(bs x.1).toList)=true:=by rw[D4];simpa using hd
 have t4:(((a.ts.length:Nat):Int) != ((x.2.length:Nat):Int))=false:=by rw[hl];simp
 have v6:=Ao hl;clear hd hl;have m:=UB.new w [.slice n1 g.length c1,.slice n2 g.length c2] [.string (bs a.name),.slice qa a.ts.length ca,.int .i64 (a.pl:Nat),.int .i64 (a.af:Nat),.bool a.neg] [.string (bs x.1),.slice qx x.2.length M,.int .i64 0,.int .i64 0,.bool false];by_cases hg:g=[]
 case' pos=>obtain⟨rfl,rfl,rfl,rfl⟩:=k7 hg;subst hg;go_enter func82,ntmps82;go_wp2_with fail;have z4:dI w (((((w.alloc (.cells #[.slice none 0 0,.slice none 0 0] 156)).alloc (.cells #[.string (bs a.name),.slice qa a.ts.length ca,.int .i64 (a.pl:Nat),.int .i64 (a.af:Nat),.bool a.neg] 69)).alloc (.cells #[.string (bs x.1),.slice qx x.2.length M,.int .i64 0,.int .i64 0,.bool false] 69)).alloc (.cells #[.slice none 0 0,.slice none 0 0] 156)).alloc (.cells #[.slice none 0 0,.slice none 0 0] 156)) a.ts x.2 [.string (bs a.name),.slice qa a.ts.length ca,.int .i64 (a.pl:Nat),.int .i64 (a.af:Nat),.bool a.neg] [.string (bs x.1),.slice qx x.2.length M,.int .i64 0,.int .i64 0,.bool false] z 0:=⟨[],none,0,0,none,0,0,none,0,none,0,HZ,by simp,m,fun _=>⟨rfl,rfl,rfl,rfl⟩⟩;clear m HZ hG v8
 case' neg=>
  have R:0<g.length:=List.length_pos_iff.2 hg;obtain⟨q0,j1⟩:=Ox.1 hG;rw[(Ky g).1]at q0;rw[(Ky g).2]at j1;obtain⟨h1,rfl,-⟩:=DO q0 0 R;obtain⟨h2,rfl,-⟩:=DO j1 0 R;have HN:=Ao (fun W (hB:Below w.heap.size w W)=>Gt (Ah q0 hB));have HW:=Ao (fun W (hB:Below w.heap.size w W)=>Gt (Ah j1 hB));have k3:((g.map Prod.fst).map CN).length=g.length*1:=by simp
  have k4:((g.map Prod.snd).map CN).length=g.length*1:=by simp
  have k9:∀u∈(g.map Prod.fst).map CN,u.oneCell'=true:=by intro u hu;obtain⟨y,_,rfl⟩:=List.mem_map.1 hu;rfl
  have q9:∀u∈(g.map Prod.snd).map CN,u.oneCell'=true:=by intro u hu;obtain⟨y,_,rfl⟩:=List.mem_map.1 hu;rfl
  go_enter func82,ntmps82;go_wp2_with (first|(at_builtin;have _t:=o;(refine Bv _ rfl _ _ 31 rfl w.heap.size 9 i1 _ 1 16 underlying31 L j2 j3 j4 rfl (by decide) (.slice none 0 0) 0 [] rfl (by exact o.wo) ⟨h2,0,none⟩ g.length c2 ((g.map Prod.snd).map CN) rfl R k4 (HW.out _ o.cf) q9 (by unfold maxLen;omega) (by omega) (by exact o.cf.size) ?_);intro g4 z8 w4 u3 y6 u8;have l:=o.word (g.map Prod.snd) g.length (Ky g).2.symm u3 y6 u8;simp only[List.length_nil,B7,List.nil_append]at l;have I:=o.ob.grown y6 (by simp[Value.ownBlock]);have d5:=I.frozen;have u0:=I.cell 0;have u1:=I.cell 1;have b5:=I.lt;simp only[List.getElem?_cons_zero,List.getElem?_cons_succ]at u0 u1)|(at_builtin;refine Bv _ rfl _ _ 31 rfl w.heap.size 9 i1 _ 1 16 underlying31 L j2 j3 j4 rfl (by decide) (.slice none 0 0) 0 [] rfl (by exact m.na) ⟨h1,0,none⟩ g.length c1 ((g.map Prod.fst).map CN) rfl R k3 (HN.out _ m.cf) k9 (by unfold maxLen;omega) (by omega) (by exact m.cf.size) ?_;intro g3 z7 w3 u2 z2 u7;have o:=m.name (g.map Prod.fst) g.length (Ky g).1.symm u2 z2 u7;simp only[List.length_nil,B7,List.nil_append]at o;have O:=m.ob.grown z2 (by simp[Value.ownBlock]);have y1:=m.g0.grown z2 (by simp[Value.ownBlock]);have d4:=O.frozen;have s0:=O.cell 0;have s1:=O.cell 1;have s2:=y1.cell 1;have b4:=O.lt;have b0:=y1.lt;simp only[List.getElem?_cons_zero,List.getElem?_cons_succ]at s0 s1 s2));have z4:dI w _ a.ts x.2 [.string (bs a.name),.slice qa a.ts.length ca,.int .i64 (a.pl:Nat),.int .i64 (a.af:Nat),.bool a.neg] [.string (bs x.1),.slice qx x.2.length M,.int .i64 0,.int .i64 0,.bool false] z 0:=⟨g,some ⟨h1,0,none⟩,g.length,c1,some ⟨h2,0,none⟩,g.length,c2,some ⟨g3,0,none⟩,z7,some ⟨g4,0,none⟩,z8,HZ,by omega,l,fun e=>absurd e hg⟩;clear m o l HN HW k3 k4 k9 q9 q0 j1 R hG
 all_goals
  go_loopw [9] (fun kv wr=>∃(k:Nat),k<=a.ts.length/\kv=.int .i64 k/\dI w wr a.ts x.2 [.string (bs a.name),.slice qa a.ts.length ca,.int .i64 (a.pl:Nat),.int .i64 (a.af:Nat),.bool a.neg] [.string (bs x.1),.slice qx x.2.length M,.int .i64 0,.int .i64 0,.bool false] z k) (fun kv _=>a.ts.length-(intOf kv).toNat)
  case atStart=>exact⟨0,by omega,rfl,z4⟩
  case round=>
   clear z4;obtain⟨k,hk,rfl,gk,S,l1,f1,E,l2,f2,N,X,a2,d2,f,d9,hS,k8⟩:=hrel;have j8:=Ao k8;clear k8;have t7:=hS.cf.size;have q1:wr.cell? ⟨w.heap.size+1,1,none⟩=some (.slice qa a.ts.length ca):=hS.a0.cell 1;have q2:wr.cell? ⟨w.heap.size+1+1,1,none⟩=some (.slice qx x.2.length M):=hS.x0.cell 1;have q3:wr.cell? ⟨w.heap.size,0,none⟩=some (.slice S l1 f1):=hS.g0.cell 0;have q4:wr.cell? ⟨w.heap.size,1,none⟩=some (.slice E l2 f2):=hS.g0.cell 1;have q5:wr.cell? ⟨w.heap.size+1+1+1+1,0,none⟩=some (.slice N gk.length X):=hS.ob.cell 0;have q6:wr.cell? ⟨w.heap.size+1+1+1+1,1,none⟩=some (.slice a2 gk.length d2):=hS.ob.cell 1;have q7:wr.cell? ⟨w.heap.size+1+1+1,0,none⟩=some (.slice none 0 0):=hS.r0.cell 0;have q8:wr.cell? ⟨w.heap.size+1+1+1,1,none⟩=some (.slice none 0 0):=hS.r0.cell 1;have fR:=hS.r0.frozen;have fO:=hS.ob.frozen;have t5:=hS.ob.lt;have v9:=hS.r0.lt;have b7:=hS.x0.lt;have g8:=hS.a0.lt;have g9:=hS.g0.lt;by_cases P:k<a.ts.length
   ·have z3:k<x.2.length:=by have:=v6.out;omega
    obtain⟨ga,y8,d8,t0,t1,t2⟩:=FM (Ah hA hS.cf) k P;subst y8;obtain⟨Z,y9,t3,y0⟩:=jI (Ah hX hS.cf) k z3;subst y9;have d:=Ao (aW gk a.ts x.2 k P z3);rw[f.out]at d;have n:=D4 a.ts[k].s x.2[k];have j9:=Ao (fun W hG=>mC W w.heap.size N a2 X d2 gk hG (by omega) a.ts[k].s);unfold RT.w at t0;obtain⟨y,z5⟩:∃y,Hid (x.2[k]=y):=⟨_,Ao rfl⟩;have z0:Hid (∀W:World,Below w.heap.size w W->W.cell? ⟨Z,k*3,none⟩=some (.string (bs y))):=by intro W hW;obtain⟨g',e',_,m0⟩:=jI (Ah hX hW) k z3;simp only[Al,BM,Dx]at e';rw[e',m0,z5.out]
    rw[z5.out]at y0 d n;obtain⟨t,ht⟩:∃t,a.ts[k]=t:=⟨_,rfl⟩;simp only[ht]at t0 t1 t2 d n j9;clear ht;cases hv:t.var
    ·rw[hv]at t1;by_cases r:t.s=y
     ·have HN:Hid (Fb gk (a.ts.drop (k+1)) (x.2.drop (k+1))=z):=by show _=_;rw[d.out,hv,Af (by simp),Ai r]
      have c:((bs t.s).toList==(bs y).toList)=true:=by rw[n];simpa using r
      have C:((bs t.s).toList != (bs y).toList)=false:=by rw[bne,c];rfl
      clear d n r f;go_wp2_with fail;exact⟨⟨k+1,P,by go_num,gk,S,l1,f1,E,l2,f2,N,X,a2,d2,HN,by omega,hS.below (Ac wr _),j8.out⟩,by simp[intOf];omega⟩
     ·have hz:z=none:=by rw[d.out,hv,Af (by simp),Af r]
      have c:((bs t.s).toList==(bs y).toList)=false:=by rw[n];simpa using r
      have C:((bs t.s).toList != (bs y).toList)=true:=by rw[bne,c];rfl
      subst hz;clear d n r f;go_wp2_with fail;refine Aq (v:=.tuple #[.agg #[.slice S l1 f1,.slice E l2 f2],.bool false]) (by simp[results,results82,go_sem,q7,q8,v9]) rfl ⟨?_,S,l1,f1,E,l2,f2,rfl,by simp⟩;exact((hS.cf.setCell (p:=⟨w.heap.size+1+1+1,0,none⟩) (by show w.heap.size<=w.heap.size+1+1+1;omega) _).setCell (p:=⟨w.heap.size+1+1+1,1,none⟩) (by show w.heap.size<=w.heap.size+1+1+1;omega) _).alloc (by simp[World.setCell];omega) _
    ·rw[hv]at t1;have y3:=Aw.new wr [.string (bs t.s),.bool true,.int .i64 (t.pl:Nat)] 130;have U:=hS.below (Ac wr (.cells #[.string (bs t.s),.bool true,.int .i64 (t.pl:Nat)] 130));have V:=Ao (j9.out _ (Ox.2 ⟨U.na,U.wo⟩));clear j9
     cases ho:IU gk t.s with
     |some u=>
      rw[ho]at V;have j0:=D4 u y;by_cases r:u=y
      ·have HN:Hid (Fb gk (a.ts.drop (k+1)) (x.2.drop (k+1))=z):=by show _=_;rw[d.out,hv,Ai rfl,ho];simp only[];rw[Ai r]
       have c:((bs u).toList==(bs y).toList)=true:=by rw[j0];simpa using r
       have C:((bs u).toList != (bs y).toList)=false:=by rw[bne,c];rfl
       clear d n r f ho j0;go_wp2_with (go_at_call 116;refine(V.out).mono ?_;rintro e w1 ⟨G,i⟩;unfold O2 at G;simp only[Option.getD_some,Option.isSome_some]at G;subst G;have q:=U.below i;have m2:w1.cell? ⟨w.heap.size+1+1,1,none⟩=some (.slice (some ⟨Z,0,none⟩) x.2.length M):=q.x0.cell 1;have m0:=z0.out _ q.cf;have k0:Z<w1.heap.size:=AH (hX.lt Z rfl).2 q.cf.size;have ml:=q.x0.lt);exact⟨⟨k+1,P,by go_num,gk,S,l1,f1,E,l2,f2,N,X,a2,d2,HN,by omega,q,j8.out⟩,by simp[intOf];omega⟩
      ·have hz:z=none:=by rw[d.out,hv,Ai rfl,ho];simp only[];rw[Af r]
       have c:((bs u).toList==(bs y).toList)=false:=by rw[j0];simpa using r
       have C:((bs u).toList != (bs y).toList)=true:=by rw[bne,c];rfl
       subst hz;clear d n r f ho j0;go_wp2_with (go_at_call 116;refine(V.out).mono ?_;rintro e w1 ⟨G,i⟩;unfold O2 at G;simp only[Option.getD_some,Option.isSome_some]at G;subst G;have q:=U.below i;have m2:w1.cell? ⟨w.heap.size+1+1,1,none⟩=some (.slice (some ⟨Z,0,none⟩) x.2.length M):=q.x0.cell 1;have m0:=z0.out _ q.cf;have k0:Z<w1.heap.size:=AH (hX.lt Z rfl).2 q.cf.size;have ml:=q.x0.lt;have m3:w1.cell? ⟨w.heap.size,0,none⟩=some (.slice S l1 f1):=q.g0.cell 0;have m4:w1.cell? ⟨w.heap.size,1,none⟩=some (.slice E l2 f2):=q.g0.cell 1;have m7:w1.cell? ⟨w.heap.size+1+1+1,0,none⟩=some (.slice none 0 0):=q.r0.cell 0;have m8:w1.cell? ⟨w.heap.size+1+1+1,1,none⟩=some (.slice none 0 0):=q.r0.cell 1;have mf:=q.r0.frozen;have r1:=q.r0.lt;have t8:=q.g0.lt);refine Aq (v:=.tuple #[.agg #[.slice S l1 f1,.slice E l2 f2],.bool false]) (by simp[results,results82,go_sem,m7,m8]) rfl ⟨?_,S,l1,f1,E,l2,f2,rfl,by simp⟩;exact(q.cf.setCell (p:=⟨w.heap.size+1+1+1,0,none⟩) (by show w.heap.size<=w.heap.size+1+1+1;omega) _).setCell (p:=⟨w.heap.size+1+1+1,1,none⟩) (by show w.heap.size<=w.heap.size+1+1+1;omega) _
     |none=>
      rw[ho]at V;have HN:Hid (Fb (gk++[(t.s,y)]) (a.ts.drop (k+1)) (x.2.drop (k+1))=z):=by show _=_;rw[d.out,hv,Ai rfl,ho]
      clear d n f ho;have j5:=(Ky gk).1;have j6:=(Ky gk).2;have Y:=Ao j5;have K:=Ao j6;have k1:Z<w.heap.size:=(hX.lt Z rfl).2;have g6:Z≠w.heap.size+1+1+1+1:=by omega
      clear j5 j6;go_wp2_with (first|(go_at_call 116;refine(V.out).mono ?_;rintro e w1 ⟨G,i⟩;unfold O2 at G;simp only[Option.getD_none,Option.isSome_none]at G;subst G;have q:=U.below i;have m5:w1.cell? ⟨w.heap.size+1+1+1+1,0,none⟩=some (.slice N gk.length X):=q.ob.cell 0;have mt:w1.cell? ⟨wr.heap.size,0,none⟩=some (.string (bs t.s)):=(y3.below i).cell 0;have r2:=(y3.below i).lt;have t9:=q.ob.lt;have b9:=q.cf.size;have b:=q.below (Ac w1 (.cells #[.string (bs t.s)] 9));have k6:(w1.alloc (.cells #[.string (bs t.s)] 9)).ownsRow w.heap.size 9 1 (.slice N gk.length X) gk.length ((gk.map Prod.fst).map CN):=by(have h:=b.na;rw[Y.out]at h;exact h))|(at_builtin;refine Bv _ rfl _ _ 31 rfl w.heap.size 9 i1 _ 1 16 underlying31 L j2 j3 j4 rfl (by decide) (.slice N gk.length X) gk.length ((gk.map Prod.fst).map CN) rfl (by exact k6) ⟨w1.heap.size,0,none⟩ 1 1 [CN t.s] rfl (by decide) rfl (by exact AS w1 [CN t.s] 9) (by intro u hu;simp at hu;subst hu;rfl) (by unfold maxLen;omega) (by omega) (by exact b.cf.size) ?_;intro g2 Q w2 q9 B u6;have l:=b.name [t.s] 1 rfl (by rw[Y.out];exact q9) B u6;rw[Y.out]at l;have A:=b.ob.grown B (Av b.na b.ob (by decide));have y4:=b.x0.grown B (Av b.na b.x0 (by decide));have d3:=A.frozen;have v0:=A.cell 0;have v1:=A.cell 1;have v2:=y4.cell 1;have b3:=A.lt;have b8:=y4.lt;have d0:=l.cf.size;have v3:w2.cell? ⟨Z,k*3,none⟩=some (.string (bs y)):=z0.out w2 (b.cf.grown B b.cf.size (A9 b.na));have g7:Z<w2.heap.size:=AH k1 (b.cf.grown B b.cf.size (A9 b.na)).size;simp only[List.getElem?_cons_zero,List.getElem?_cons_succ]at v0 v1 v2;have v4:(w2.setCell ⟨w.heap.size+1+1+1+1,0,none⟩ (.slice (some ⟨g2,0,none⟩) (gk.length+1) Q)).heap.size=w2.heap.size:=(by simp[World.setCell]);have J:=(l.below (Ac _ (.cells #[.string (bs y)] 9))).drew;have v5:=AS (w2.setCell ⟨w.heap.size+1+1+1+1,0,none⟩ (.slice (some ⟨g2,0,none⟩) (gk.length+1) Q)) [CN y] 9;rw[v4]at v5;have j7:=J.wo;rw[K.out]at j7));have g1:∀j u,[CN y][j]? =some u->((w2.setCell ⟨w.heap.size+1+1+1+1,0,none⟩ (.slice (some ⟨g2,0,none⟩) (gk.length+1) Q)).alloc (.cells #[.string (bs y)] 9)).drew.cell? ((⟨w2.heap.size,0,none⟩:Addr).add j)=some u:=(by exact v5);have u5:∀u∈[CN y],u.oneCell'=true:=(by intro u hu;simp at hu;subst hu;rfl);have v7:=J.cf.size;have H:=Av J.wo J.ob (by decide)
      go_region_law (refine CP _ rfl (.tmp 88) (.tmp 95) 31 rfl w.heap.size 9 i1 _ 1 16 underlying31 L j2 j3 j4 rfl (by decide) (.slice a2 gk.length d2) gk.length ((gk.map Prod.snd).map CN) (by simp[Act.eval]) j7 ⟨w2.heap.size,0,none⟩ 1 1 [CN y] (by simp[Act.eval]) (by decide) rfl g1 u5 (by unfold maxLen;omega) (by omega) v7 ?_;intro g5 z9 w5 u4 y7 u9;have y2:=J.word [y] 1 rfl (by rw[K.out];exact u4) y7 u9;rw[K.out]at y2;have z1:=J.ob.grown y7 H;have d6:=z1.frozen;have x1:=z1.cell 1;have b6:=z1.lt;simp only[List.getElem?_cons_zero,List.getElem?_cons_succ]at x1)
      all_goals
       go_wp2_with fail;refine⟨⟨k+1,P,by go_num,gk++[(t.s,y)],S,l1,f1,E,l2,f2,some ⟨g2,0,none⟩,Q,some ⟨g5,0,none⟩,z9,HN,by simp;omega,?_,fun e=>by simp at e⟩,by simp[intOf];omega⟩;rw[Am,A8,A8];exact y2
   ·have k2:k=a.ts.length:=by omega
    have hz:z=some gk:=by rw[<-f.out,k2,AR];rfl
    subst hz;clear k2 f;go_wp2_with fail;refine Aq (v:=.tuple #[.agg #[.slice N gk.length X,.slice a2 gk.length d2],.bool true]) (by simp[results,results82,go_sem,q7,q8]) rfl ⟨?_,N,gk.length,X,a2,gk.length,d2,rfl,?_⟩
    ·exact(hS.cf.setCell (p:=⟨w.heap.size+1+1+1,0,none⟩) (by show w.heap.size<=w.heap.size+1+1+1;omega) _).setCell (p:=⟨w.heap.size+1+1+1,1,none⟩) (by show w.heap.size<=w.heap.size+1+1+1;omega) _
    ·intro g' y5;simp only[Al]at y5;subst y5;have H:=Av hS.na hS.r0 (by decide);have k5:=Av hS.wo hS.r0 (by decide);exact⟨rfl,rfl,Ox.2 ⟨AJ (AJ hS.na _ _ H) _ _ H,AJ (AJ hS.wo _ _ k5) _ _ k5⟩,j8.out⟩
theorem aU(w:World)(base b1 b2:Nat)(y k:Option Addr)(q j:Nat)(g:GV)(p:JO w base (.slice y g.length q) (.slice k g.length j) g)(z:g=[]->y=none/\q=0/\k=none/\j=0)(t:g.length<=500)
 (a:RA)(qa:Option Addr)(v:Nat)(r:w.ownsRow b1 130 3 (.slice qa a.ts.length v) a.ts.length (a.ts.flatMap RT.cells))(d:a.ts.length<=100)(x:BA)(b:Option Addr)(u:Nat)(c:w.ownsRow b2 130 3 (.slice b x.2.length u) x.2.length ((gA x).ts.flatMap RT.cells)):
 Calls prog 82 #[.agg #[.slice y g.length q,.slice k g.length j],.agg #[.string (bs a.name),.slice qa a.ts.length v,.int .i64 (a.pl:Nat),.int .i64 (a.af:Nat),.bool a.neg],.agg #[.string (bs x.1),.slice b x.2.length u,.int .i64 0,.int .i64 0,.bool false]] w fun e w'=>R8 w (Gy g a x) e w':=by
 by_cases h:a.name=x.1/\a.ts.length=x.2.length
 ·exact aS w base b1 b2 y k q j g p z t a qa v r d x b u c h.1 h.2
 ·have:=gN w y k q j g.length g.length a qa v x b u h;rw[show Gy g a x=none by unfold Gy;rw[Af h]];exact this
end
end Go.Proofs.YtpbfiffgcgnidaaGreatDoor
