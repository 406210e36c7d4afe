import Derived.Test.YtpbfiffgcgnidaaGreatYal
import Derived.Deep.RegionLaw
import Derived.Test.YtpbfiffgcgnidaaGreatY3
namespace Go.Proofs.YtpbfiffgcgnidaaGreat
set_option maxRecDepth 100000
set_option maxHeartbeats 4000000
set_option linter.unusedSimpArgs false
section
open Go.RowKit
theorem hid{p:Prop}(h:p):Hid p:=h
theorem drewN_alloc(w:World)(n:Nat)(o:Obj):(w.drewN n).alloc o=(w.alloc o).drewN n:=rfl
theorem drewN_setCell(w:World)(n:Nat)(a:Addr)(v:Value):(w.drewN n).setCell a v=(w.setCell a v).drewN n:=rfl
theorem Kept.drewn{b:Nat}{u w:World}(h:Kept b u w):Kept b u w.drew:=h.trans (Kept.drew b w)
theorem Kept.set5{b:Nat}{u w:World}(h:Kept b u w)(A:Nat)(hA:u.heap.size<=A)(x0 x1 x2 x3 x4:Value):
 Kept b u (((((w.setCell ⟨A,0,none⟩ x0).setCell ⟨A,1,none⟩ x1).setCell ⟨A,2,none⟩ x2).setCell ⟨A,3,none⟩ x3).setCell ⟨A,4,none⟩ x4):=
 ((((h.setNew (p:=⟨A,0,none⟩) hA x0).setNew (p:=⟨A,1,none⟩) hA x1).setNew (p:=⟨A,2,none⟩) hA x2).setNew (p:=⟨A,3,none⟩) hA x3).setNew (p:=⟨A,4,none⟩) hA x4
theorem Blk.setOther5{w:World}{b:Nat}{cs:List Value}{t:TypeId}(h:Blk w b cs t)(A:Nat)(hA:b≠A)(x0 x1 x2 x3 x4:Value):
 Blk (((((w.setCell ⟨A,0,none⟩ x0).setCell ⟨A,1,none⟩ x1).setCell ⟨A,2,none⟩ x2).setCell ⟨A,3,none⟩ x3).setCell ⟨A,4,none⟩ x4) b cs t:=
 ((((h.setOther ⟨A,0,none⟩ x0 hA).setOther ⟨A,1,none⟩ x1 hA).setOther ⟨A,2,none⟩ x2 hA).setOther ⟨A,3,none⟩ x3 hA).setOther ⟨A,4,none⟩ x4 hA
theorem step_append_own{P:Program}{ops:Array Oper}{o:Oper}{a:Act}{w:World}{K:Act->World->Prop}{Q:Exit->Act->World->Prop}{E:Prop}
 (hgd:o.guard=none)(s x:Operand)(t:TypeId)(hop:o.op=Op.call { callee:=Callee.builtin Builtin.append,args:=#[s,x],argTypes:=#[t,t] })
 (base:Nat)(e:TypeId)(i:TypeInfo)(z:Value)(size bytes:Nat)(ht:P.underlying t=some (.slice e))(hi:P.info? e=some i)(hz:i.zero=some z)
 (hsize:i.size=size)(hby:i.bytes=bytes)(hzs:z.cells.size=size)(hsz:0<size)
 (v:Value)(n:Nat)(xs:List Value)(hs:a.eval s=v)(hown:w.ownsRow base e size v n xs)
 (ad:Addr)(m c:Nat)(news:List Value)(hx:a.eval x=.slice (some ad) m c)(hm:0<m)(hl:news.length=m*size)(hnews:∀j u,news[j]? =some u->w.cell? (ad.add j)=some u)(h1:∀u∈news,u.oneCell'=true)
 (h63:n+m<=maxLen)(hbytes:(n+m)*bytes<=140737488355328)(hbase:base<=w.heap.size)
 (hK:∀g cap w',w'.ownsRow base e size (.slice (some ⟨g,0,none⟩) (n+m) cap) (n+m) (xs++news)->w.grownBy w' v.ownBlock->K (a.put o.dst (.slice (some ⟨g,0,none⟩) (n+m) cap)) w'):
 if Region.wanted o (yielded ops a.tmps)=true then Oper.wp P o a w K Q else E:=by
 have hw:Region.wanted o (yielded ops a.tmps)=true:=by simp[Region.wanted,hgd]
 rw[if_pos hw];refine wp_append_own w s x t hop base e i z size bytes ht hi hz hsize hby hzs hsz v n xs hs hown ad m c news hx hl hnews h1 h63 hbytes hbase ?_;intro v' w' h2 h3 _;rcases h2.2 with⟨hv,hn⟩|⟨g,cap,cur,hv,_⟩
 ·omega
 ·subst hv;exact hK g cap w' h2 h3
structure KeptTo(B b:Nat)(w w':World):Prop where
 os:w'.os=w.os
 tape:w'.tape=w.tape
 output:w'.output=w.output
 size:w.heap.size<=w'.heap.size
 block:∀k,k<B->k≠b->w'.heap[k]? =w.heap[k]?
theorem KeptTo.refl(B b:Nat)(w:World):KeptTo B b w w:=⟨rfl,rfl,rfl,Nat.le_refl _,fun _ _ _=>rfl⟩
theorem KeptTo.trans{B b:Nat}{u v w:World}(h:KeptTo B b u v)(k:KeptTo B b v w):KeptTo B b u w:=
 ⟨k.os.trans h.os,k.tape.trans h.tape,k.output.trans h.output,Nat.le_trans h.size k.size,fun i hi hn=>(k.block i hi hn).trans (h.block i hi hn)⟩
theorem KeptTo.kept{B b:Nat}{u v w:World}(h:KeptTo B b u v)(k:Kept b v w)(hB:B<=v.heap.size):KeptTo B b u w:=
 h.trans ⟨k.os,k.tape,k.output,k.size,fun i hi hn=>k.block i (by omega) hn⟩
theorem KeptTo.alloc{B b:Nat}{u w:World}(h:KeptTo B b u w)(o:Obj)(hB:B<=w.heap.size):KeptTo B b u (w.alloc o):=h.kept (Kept.alloc b w o) hB
theorem KeptTo.drew{B b:Nat}{u w:World}(h:KeptTo B b u w):KeptTo B b u w.drew:=h.trans ⟨rfl,rfl,rfl,Nat.le_refl _,fun _ _ _=>rfl⟩
theorem KeptTo.set{B b:Nat}{u w:World}(h:KeptTo B b u w)(p:Addr)(x:Value)(hp:B<=p.block\/p.block=b):KeptTo B b u (w.setCell p x):=
 h.trans ⟨rfl,rfl,rfl,by simp[World.setCell],fun k hk hn=>Below.heap_setCell _ _ _ _ (by rcases hp with hp|hp<;>omega)⟩
theorem KeptTo.grown{B b:Nat}{u w w':World}{row:Option Nat}(h:KeptTo B b u w)(hg:w.grownBy w' row)(hB:B<=w.heap.size)(hr:∀k,row=some k->B<=k):KeptTo B b u w':=
 h.trans ⟨hg.os,hg.tape,hg.output,hg.size,fun k hk _=>hg.block k (by omega) (fun e=>by have:=hr k e.symm;omega)⟩
theorem Kept.to{B b:Nat}{w w':World}(h:Kept b w w')(hB:B<=w.heap.size):KeptTo B b w w':=(KeptTo.refl B b w).kept h hB
theorem KeptTo.all{b:Nat}{w w':World}(h:KeptTo w.heap.size b w w'):Kept b w w':=⟨h.os,h.tape,h.output,h.size,h.block⟩
theorem own_ne{w:World}{base:Nat}{e:TypeId}{size:Nat}{v:Value}{n:Nat}{xs:List Value}(h:w.ownsRow base e size v n xs){b:Nat}{cs:List Value}{t:TypeId}(hb:Blk w b cs t)(hne:t≠e):v.ownBlock≠some b:=by
 rcases h.2 with⟨rfl,_⟩|⟨g,cap,cur,rfl,_,hg,_⟩
 ·simp[Value.ownBlock]
 ·intro he;simp only[Value.ownBlock,Option.some.injEq]at he;subst he;unfold Blk at hb;rw[hb]at hg;simp at hg;exact hne hg.2
theorem own_ne2{w:World}{base base':Nat}{e e':TypeId}{size size':Nat}{v v':Value}{n n':Nat}{xs xs':List Value}(h:w.ownsRow base e size v n xs)(h':w.ownsRow base' e' size' v' n' xs')(hne:e≠e'):v.ownBlock=none\/v.ownBlock≠v'.ownBlock:=by
 rcases h.2 with⟨rfl,_⟩|⟨g,cap,cur,rfl,_,hg,_⟩
 ·exact .inl rfl
 ·rcases h'.2 with⟨rfl,_⟩|⟨g',cap',cur',rfl,_,hg',_⟩
  ·exact .inr (by simp[Value.ownBlock])
  ·refine .inr ?_;intro he;simp only[Value.ownBlock,Option.some.injEq]at he;subst he;rw[hg']at hg;simp at hg;exact hne hg.2.symm
theorem own_kept{w w':World}{b base:Nat}{e:TypeId}{size:Nat}{v:Value}{n:Nat}{xs:List Value}(h:w.ownsRow base e size v n xs)(hk:Kept b w w')(hne:v.ownBlock≠some b):w'.ownsRow base e size v n xs:=by refine h.kept (row:=some b) ⟨hk.os,hk.tape,hk.output,hk.size,fun k hk' hn=>hk.block k hk' (fun e=>hn (by rw[e]))⟩ (.inr hne)
theorem own_set{w:World}{base:Nat}{e:TypeId}{size:Nat}{v:Value}{n:Nat}{xs:List Value}(h:w.ownsRow base e size v n xs)(p:Addr)(x:Value)(hne:v.ownBlock≠some p.block):(w.setCell p x).ownsRow base e size v n xs:=
 own_kept h (Kept.setCell (b:=p.block) w rfl x) hne
theorem Blk.grown{w w':World}{b:Nat}{cs:List Value}{t:TypeId}{row:Option Nat}(h:Blk w b cs t)(hg:w.grownBy w' row)(hne:row≠some b):Blk w' b cs t:=by have hlt:=h.lt;unfold Blk at*;rw[hg.block b hlt (fun e=>hne e.symm),h]
end
end Go.Proofs.YtpbfiffgcgnidaaGreat
