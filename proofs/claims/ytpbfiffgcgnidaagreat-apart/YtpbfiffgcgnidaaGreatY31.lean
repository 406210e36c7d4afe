import Derived.Test.YtpbfiffgcgnidaaGreatYal
import Derived.Deep.MidRow
import Derived.Great.BuildSlice
import Derived.Test.YtpbfiffgcgnidaaGreatY23
namespace Go.Proofs.YtpbfiffgcgnidaaGreat
set_option maxRecDepth 100000
set_option maxHeartbeats 4000000
set_option linter.unusedSectionVars false
set_option linter.unusedSimpArgs false
open Go.Proofs.Tryz
section
attribute [local go_sem] drewN_alloc drewN_setCell
open Go.RowKit Go.WideMaps Go.Maps
variable [DecidableEq R3] [DecidableEq A4]
def zU:List Value:=[.int .i64 0,.int .i64 0,.int .i64 0,.int .i64 0,.int .i64 0,.int .i64 0,.int .i64 0,.int .i64 0,.int .i64 0,.int .i64 0,.int .i64 0,.int .i64 0,.int .i64 0,.int .i64 0,.int .i64 0,.int .i64 0,.int .i64 0,.int .i64 0,.int .i64 0,.int .i64 0,.int .i64 0,.int .i64 0]
theorem infoUU:(prog.info? 118).map (fun i=>(i.zero,i.size,i.bytes))=some (some (.agg zU.toArray),22,176):=by kernel_rfl
theorem oneU'(q:RuD):∀u∈cellsU q,u.oneCell'=true:=by intro u hu;have:=Array.all_eq_true_iff_forall_mem.1 (oneU q) u (by simpa using hu);exact this
theorem wpList_store_new{P:Program}{ops:Array Oper}{rest:List Oper}{o:Oper}{a:Act}{w0:World}{old:Array Value}{t:TypeId}{Q:Exit->Act->World->Prop}(hgd:o.guard=none)(ty:TypeId)(x y:Operand)(ho:o.op=.store ty x y)
 (cs:List Value)(hx:a.eval x=.pointer (some ⟨w0.heap.size,0,none⟩))(hy:a.eval y=.agg cs.toArray)(hi:(P.info? ty).map (fun i=>i.size)=some cs.toArray.size)(hold:old.size=cs.toArray.size)(h1:cs.toArray.all (fun x=>x.oneCell')=true)
 (h:∀w',Blk w' w0.heap.size cs t->Below w0.heap.size w0 w'->w'.heap.size=w0.heap.size+1->wpList P ops Q rest (a.put o.dst undef) w'):wpList P ops Q (o::rest) a (w0.alloc (.cells old t)):=by
 have hg:(w0.alloc (.cells old t)).heap[w0.heap.size]? =some (.cells old t (0,0)):=heap_alloc_new w0 _;refine wpList_store_row hgd ty x y ho w0.heap.size cs.toArray hx hy t old hg hi hold h1 (h _ ?_ ?_ (by simp))
 ·exact setRow_heap _ _ _ _ _ _ hg
 ·exact below_setRow (below_alloc w0 _) (Nat.le_refl _) _
theorem fillU(x:RuD):Instr.fill (fun i=>some (i*22,22)) ((Array.range (1*22)).map ((Value.agg zU.toArray).cells[· %(Value.agg zU.toArray).cells.size]!)) [(0,.agg (cellsU x).toArray)]=some (cellsU x).toArray:=by kernel_rfl
theorem wpList_buildU{ops:Array Oper}{rest:List Oper}{o:Oper}{a:Act}{w:World}{Q:Exit->Act->World->Prop}(hg:o.guard=none)(x:Operand)(ho:o.op=.buildSlice 103 1 #[(0,x)])(q:RuD)(hx:a.eval x=.agg (cellsU q).toArray)
 (h:wpList prog ops Q rest (a.put o.dst (.slice (some ⟨w.heap.size,0,none⟩) 1 1)) (w.alloc (.cells (cellsU q).toArray 118))):wpList prog ops Q (o::rest) a w:=by
 obtain⟨i1,hi1,hy0,hy1,hy2⟩:=info_parts infoUU;refine wpList_buildSlice hg 103 118 1 _ ho (cellsU q).toArray i1 _ underlying103 hi1 hy0 (by rw[hy1];decide) (by rw[hy1];decide) ?_ h;have e:(#[(0,x)].map fun(i,x)=>(i,a.eval x)).toList=[(0,Value.agg (cellsU q).toArray)]:=by simp[hx]
 rw[e,hy1];exact fillU q
theorem rule_at{w:World}{base:Nat}{ao:Option Addr}{cap:Nat}{rules:List RuD}(h:w.ownsRow base 118 22 (.slice ao rules.length cap) rules.length (rules.flatMap cellsU))(i:Nat)(hi:i<rules.length):∃g,ao=some ⟨g,0,none⟩/\g<w.heap.size/\w.rangeAt g (i*22) (cellsU rules[i]):=by
 rw[List.flatMap_def]at h;obtain⟨g,rfl,_,hc⟩:=own_at h (by intro r hr;obtain⟨p,_,rfl⟩:=List.mem_map.1 hr;rfl) (by simp) i hi;have hg:g<w.heap.size:=(h.lt g rfl).2;have e:(rules.map fun k=>cellsU k).getD i []=cellsU rules[i]:=by rw[List.getD_eq_getElem?_getD,List.getElem?_map,List.getElem?_eq_getElem hi];rfl
 rw[e]at hc;refine⟨g,rfl,hg,fun j v hv=>?_⟩;have hj:j<22:=(List.getElem?_eq_some_iff.1 hv).1;rw[<-hv];exact hc j hj
theorem World.rangeAt.below{w w':World}{B g o:Nat}{cs:List Value}(h:w.rangeAt g o cs)(hb:Below B w w')(hg:g<B):w'.rangeAt g o cs:=fun j v hv=>by rw[hb.cell (p:=⟨g,o+j,none⟩) hg];exact h j v hv
theorem cutG_take(rules:List RuD)(q:A4)(k:Nat)(hk:k<rules.length):cutG (rules.take (k+1)) q=cutG (rules.take k) q++(if rules[k].h.n=q.n then fitG rules[k] rules[k].h.r q.r else none).toList:=by unfold cutG;rw[List.take_succ_eq_append_getElem hk,List.filterMap_append];rw[List.filterMap_cons];cases(if rules[k].h.n=q.n then fitG rules[k] rules[k].h.r q.r else none)<;>rfl
theorem cut_c(w:World)(base tb:Nat)(ao:Option Addr)(cap:Nat)(rules:List RuD)(q:A4)(c6:w.cell? ⟨tb,6,none⟩=some (.slice ao rules.length cap))(hr:w.ownsRow base 118 22 (.slice ao rules.length cap) rules.length (rules.flatMap cellsU))(hn:rules.length<=1000)(hw:∀r∈rules,r.Wf):
 Calls prog 144 #[.pointer (some ⟨tb,0,none⟩),.agg #[.int .i64 q.n,.int .i64 q.r.a,.int .i64 q.r.b,.int .i64 q.r.c]] w fun e w'=>∃v,e=.returned v/\w'.ownsRow w.heap.size 118 22 v (cutG rules q).length ((cutG rules q).flatMap cellsU)/\Below w.heap.size w w':=by
 have htb:=blk_in c6;have hQ0:=Blk.new w (cellsA q) 115;have hB0:=below_alloc w (.cells #[.int .i64 q.n,.int .i64 q.r.a,.int .i64 q.r.b,.int .i64 q.r.c] 115);obtain⟨i1,hi1,hy0,hy1,hy2⟩:=info_parts infoUU;go_enter func144,ntmps144;go_wp2_with fail
 go_loopw [5,15] (fun v iv wr=>∃(k:Nat),k<=rules.length/\iv=.int .i64 k/\wr.ownsRow w.heap.size 118 22 v (cutG (rules.take k) q).length ((cutG (rules.take k) q).flatMap cellsU)/\(cutG (rules.take k) q).length<=k/\Blk wr w.heap.size (cellsA q) 115/\Below w.heap.size w wr) (fun _ iv _=>rules.length-(intOf iv).toNat)
 case atStart=>exact⟨0,by omega,rfl,World.ownsRow_nil _ _ _ _,by simp[cutG],hQ0,hB0⟩
 case round=>
  clear hQ0 hB0;obtain⟨k,hk,rfl,hA,hAl,hQ,hB⟩:=hrel;by_cases hlt:k<rules.length
  ·obtain⟨g,rfl,hg,hx⟩:=rule_at hr k hlt;have hxr:=World.rangeAt.below hx hB hg;have HT:=hid (cutG_take rules q k hlt);have hwr:=(hw rules[k] (List.getElem_mem hlt)).cnt;generalize rules[k]=r at*;have hlq:=hQ.lt;go_upto_region 5 with(first|(refine wpList_load_mid rfl 118 (.tmp 17) rfl g (k*22) rfl (cellsU r) _ hxr underlying118 rfl infoU ?_)|(refine wpList_store_new rfl 118 (.tmp 7) (.tmp 18) rfl (cellsU r) rfl rfl infoU rfl (oneU r) ?_;intro w1 hR1 hbe hs1));have hQ1:=hQ.below hbe;have hA1:=own_below hA hbe;have hB1:=hB.trans (hbe.mono hB.size);clear hbe hQ hA hB hxr hx;generalize hRz:wr.heap.size=R at*;clear hRz wr;have z0:w1.cell? ⟨R,0,none⟩=some (.int .i64 r.h.n):=hR1.cell 0;have y0:w1.cell? ⟨w.heap.size,0,none⟩=some (.int .i64 q.n):=hQ1.cell 0;by_cases he:r.h.n=q.n
   ·have hb:(r.h.n==q.n)=true:=by simpa using he
    have hb':(r.h.n != q.n)=false:=by simp[he]
    rw[if_pos he]at HT;have z1:w1.cell? ⟨R,1,none⟩=some (.int .i64 r.h.r.a):=hR1.cell 1;have z2:w1.cell? ⟨R,2,none⟩=some (.int .i64 r.h.r.b):=hR1.cell 2;have z3:w1.cell? ⟨R,3,none⟩=some (.int .i64 r.h.r.c):=hR1.cell 3;have y1:w1.cell? ⟨w.heap.size,1,none⟩=some (.int .i64 q.r.a):=hQ1.cell 1;have y2:w1.cell? ⟨w.heap.size,2,none⟩=some (.int .i64 q.r.b):=hQ1.cell 2;have y3:w1.cell? ⟨w.heap.size,3,none⟩=some (.int .i64 q.r.c):=hQ1.cell 3;clear he;go_upto_region 7 with(first|(refine wpList_load_row rfl 118 (.tmp 7) rfl R rfl 118 (cellsU r).toArray (0,0) _ hR1 underlying118 rfl infoU ?_)|(go_at_call 156;refine(fit_c _ r r.h.r q.r hwr).mono ?_;rintro e w2 ⟨⟨x,rfl,hxf⟩,hB2⟩;have hQ2:=hQ1.below hB2;have hA2:=own_below hA1 hB2;have hBw2:=hB1.trans (hB2.mono hB1.size))|(refine wpList_store_new rfl 118 (.tmp 8) (.tmp 33) rfl (cellsU x) rfl rfl infoU rfl (oneU x) ?_;intro w3 hX3 hbe3 hs3));have hQ3:=hQ2.below hbe3;have hA3:=own_below hA2 hbe3;have hB3:=hBw2.trans (hbe3.mono hBw2.size);clear hbe3 hQ2 hA2 hBw2 hQ1 hA1 hB1
    cases hfit:fitG r r.h.r q.r with
    |none=>rw[hfit,Option.toList_none,List.append_nil]at HT;go_wp2_with fail;exact⟨⟨k+1,hlt,by go_num,by rw[HT.out];exact hA3,by rw[HT.out];omega,hQ3,hB3⟩,by simp[intOf];omega⟩
    |some y=>
     have hxy:=hxf y hfit;subst hxy;rw[hfit,Option.toList_some]at HT;go_wp2_with (first|(refine wpList_load_row rfl 118 (.tmp 8) rfl w2.heap.size rfl 118 (cellsU x).toArray (0,0) _ hX3 underlying118 rfl infoU ?_)|(refine wpList_buildU rfl (.tmp 37) rfl x rfl ?_)|(refine wpList_append_at _ rfl (.tmp 36) (.tmp 38) 103 rfl w.heap.size 118 i1 _ 22 176 underlying103 hi1 hy0 hy1 hy2 rfl (by decide) _ _ _ rfl (hA3.alloc _) ⟨w3.heap.size,0,none⟩ 1 1 (cellsU x) rfl (by decide) rfl (new_cells w3 (cellsU x) 118) (oneU' x) (by unfold maxLen;omega) (by omega) (by have:=hB3.size;simp;omega) ?_;intro g2 cap2 w5 hL5 hg5 _));have hB5:Below w.heap.size w w5:=((((Only.of_below (S:=fun _=>False) hB3).alloc _).grown hg5 (fun q hq=>.inr (hA3.lt q hq).1)).below (Nat.le_refl _) (fun _ h=>h.elim));have hQ5:=(hQ3.alloc (.cells (cellsU x).toArray 118)).grown hg5 (own_ne hA3 hQ3 (by decide));refine⟨⟨k+1,hlt,by go_num,?_,?_,hQ5,hB5⟩,by simp[intOf];omega⟩
     ·rw[HT.out];simpa using hL5
     ·rw[HT.out];simp;omega
   ·have hb:(r.h.n==q.n)=false:=by simpa using he
    have hb':(r.h.n != q.n)=true:=by simp[he]
    rw[if_neg he]at HT;clear he;go_wp2_with fail;rw[Option.toList_none,List.append_nil]at HT;exact⟨⟨k+1,hlt,by go_num,by rw[HT.out];exact hA1,by rw[HT.out];omega,hQ1,hB1⟩,by simp[intOf];omega⟩
  ·have hke:k=rules.length:=by omega
   rw[hke,List.take_length]at hA;clear hke;go_wp2_with fail
   go_ret
   exact⟨_,rfl,hA,hB⟩
end
end Go.Proofs.YtpbfiffgcgnidaaGreat
