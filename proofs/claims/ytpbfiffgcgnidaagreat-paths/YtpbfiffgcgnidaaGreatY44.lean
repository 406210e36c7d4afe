import Derived.Test.YtpbfiffgcgnidaaGreatYal
import Derived.Test.YtpbfiffgcgnidaaGreatY38
import Derived.Test.YtpbfiffgcgnidaaGreatY41
namespace Go.Proofs.YtpbfiffgcgnidaaGreat
set_option maxRecDepth 100000
set_option maxHeartbeats 4000000
set_option linter.unusedSimpArgs false
open Go.Proofs.Tryz
section
attribute [local go_sem] Ai Ae
open Go.RowKit Go.WideMaps Go.Maps
theorem Hv:(prog.info? 25).map (fun i=>i.size)=some 16:=by kernel_rfl
theorem NM(q:List Bool):(Am q).toArray.all (fun x=>x.oneCell')=true:=by simp[Am,Value.oneCell']
theorem EP(q:List Bool)(hq:q.length=16):(Am q).toArray.size=16:=by simp[Am,hq]
theorem Jj{W:World}{b:Nat}{o:List Bool}(h:Ag W b (Am o) 25)(ho:o.length=16)(i k:Nat)(hi:i<4)(hk:k<4):W.cell? ⟨b,i*4+k,none⟩=some (.bool (Dm o i k)):=by rw[h.cell];simp[Am,Dm,show i*4+k=4*i+k by omega,show 4*i+k<o.length by omega]
theorem PH{W:World}{b:Nat}{o:List Bool}(h:Ag W b (Am o) 25)(i k:Nat)(x:Bool):Ag (W.setCell ⟨b,i*4+k,none⟩ (.bool x)) b (Am (o.set (4*i+k) x)) 25:=by have:=h.setCell (i*4+k) (.bool x);rw[show i*4+k=4*i+k by omega]at this⊢;unfold Am at this⊢;rw[List.map_set];exact this
theorem Pu{g:Nat->Nat->Bool}{o:List Bool}{m i k:Nat}(h:Dx g (Dm o) m i k)(ho:o.length=16)(hm:m<4)(hi:i<4)(hk:k<4)(x:Bool)(hx:x=(Dm o i k||Dm o i m&&Dm o m k)):Dx g (Dm (o.set (4*i+k) x)) m i (k+1):=by refine(h.step hm hi hk).congr (by omega) (by omega) (.inl hi) ?_;intro a b ha hb;rw[N4 o ho i k hi hk x a b ha hb,hx];rfl
theorem NI(w:World)(q:List Bool)(hq:q.length=16):
 Calls prog 8 #[.agg (Am q).toArray] w fun e w'=>∃o:List Bool,o.length=16/\e=.returned (.agg (Am o).toArray)/\(∀i k,i<4->k<4->(Dm o i k=true↔CL (Dm q) i k))/\Below w.heap.size w w':=by
 have hG0:=((Ag.new w (Am q) 25).alloc (.cells zG.toArray 25)).alloc (.cells zG.toArray 25);have hR0:=(Ag.new (w.alloc (.cells (Am q).toArray 25)) zG 25).alloc (.cells zG.toArray 25);have hO0:=Ag.new ((w.alloc (.cells (Am q).toArray 25)).alloc (.cells zG.toArray 25)) zG 25;have hB0:=(((Below.refl w.heap.size w).alloc (Nat.le_refl _) (.cells (Am q).toArray 25)).alloc (by simp) (.cells zG.toArray 25)).alloc (by simp;omega) (.cells zG.toArray 25);simp only[World.size_alloc]at hR0 hO0;have hcg:(prog.info? 25).map (fun i=>i.size)=some (Am q).toArray.size:=by rw[EP q hq];exact Hv
 go_enter func8,ntmps8;go_wp2_with (first|(refine wpList_load_row rfl 25 (.tmp 1) rfl w.heap.size rfl 25 (Am q).toArray (0,0) _ (by first|exact hG0|exact(Ag.new w (Am q) 25).alloc (.cells zG.toArray 25)) underlying25 rfl hcg ?_)|(refine wpList_store_row rfl 25 (.tmp 3) (.tmp 7) rfl (w.heap.size+1+1) (Am q).toArray rfl rfl 25 _ hO0 hcg (by rw[EP q hq];rfl) (NM q) ?_));have hR1:=hR0.rowOff (w.heap.size+1+1) (Am q).toArray (by omega);have hO1:=hO0.row (Am q);have hB1:=below_setRow hB0 (show w.heap.size<=w.heap.size+1+1 by omega) (Am q).toArray;clear hG0 hR0 hO0 hB0
 go_loopw [4] (fun mv wr=>∃(m:Nat) (o:List Bool),m<=4/\mv=.int .i64 m/\o.length=16/\Hid (Dx (Dm q) (Dm o) m 0 0)/\Ag wr (w.heap.size+1) zG 25/\Ag wr (w.heap.size+1+1) (Am o) 25/\Below w.heap.size w wr) (fun mv _=>4-(intOf mv).toNat)
 case atStart=>exact⟨0,q,by omega,rfl,hq,Dx.start _,hR1,hO1,hB1⟩
 case round=>
  clear hR1 hO1 hB1;obtain⟨m,o,hm,rfl,ho,HW,hR,hO,hB⟩:=hrel;by_cases hlm:m<4
  ·go_wp2_with fail;generalize decide ((m:Int)<4)=bb
   go_loopw [5] (fun iv wr=>∃(i:Nat) (o:List Bool),i<=4/\iv=.int .i64 i/\o.length=16/\Hid (Dx (Dm q) (Dm o) m i 0)/\Ag wr (w.heap.size+1) zG 25/\Ag wr (w.heap.size+1+1) (Am o) 25/\Below w.heap.size w wr) (fun iv _=>4-(intOf iv).toNat)
   case atStart=>exact⟨0,o,by omega,rfl,ho,HW,hR,hO,hB⟩
   case round=>
    clear HW hR hO hB ho;clear o;obtain⟨i,o,hi,rfl,ho,HW,hR,hO,hB⟩:=hrel;by_cases hli:i<4
    ·go_wp2_with fail;generalize decide ((i:Int)<4)=bc
     go_loopw [6] (fun kv wr=>∃(k:Nat) (o:List Bool),k<=4/\kv=.int .i64 k/\o.length=16/\Hid (Dx (Dm q) (Dm o) m i k)/\Ag wr (w.heap.size+1) zG 25/\Ag wr (w.heap.size+1+1) (Am o) 25/\Below w.heap.size w wr) (fun kv _=>4-(intOf kv).toNat)
     case atStart=>exact⟨0,o,by omega,rfl,ho,HW,hR,hO,hB⟩
     case round=>
      clear HW hR hO hB ho;clear o;obtain⟨k,o,hk,rfl,ho,HW,hR,hO,hB⟩:=hrel;by_cases hlk:k<4
      ·have c1:=Jj hO ho i k hli hlk;have c2:=Jj hO ho i m hli hlm;have c3:=Jj hO ho m k hlm hlk;have fO:=hO.frozen;have hlt:=hO.lt;have HN:=AJ (fun x hx=>Pu HW.out ho hlm hli hlk x hx);generalize Dm o i k=x at*;generalize Dm o i m=y at*;generalize Dm o m k=z at*;clear HW;cases x<;>cases y<;>cases z
       all_goals
        go_wp2_with fail;go_region;go_wp2_with fail;exact⟨⟨k+1,o.set (4*i+k) _,hlk,by go_num,by rw[List.length_set];exact ho,HN.out _ rfl,(hR.setOther _ _ (by simp only[];omega)).drew,(PH hO i k _).drew,(hB.setCell (by simp only[];omega) _).drew⟩,by simp[intOf];omega⟩
      ·have hke:k=4:=by omega
       subst hke;go_wp2_with fail;exact⟨⟨i+1,o,hli,by go_num,ho,HW.out.nextI,hR,hO,hB⟩,by simp[intOf];omega⟩
    ·have hie:i=4:=by omega
     subst hie;go_wp2_with fail;exact⟨⟨m+1,o,hlm,by go_num,ho,HW.out.nextM,hR,hO,hB⟩,by simp[intOf];omega⟩
  ·have hme:m=4:=by omega
   subst hme;have hco:(prog.info? 25).map (fun i=>i.size)=some (Am o).toArray.size:=by rw[EP o ho];exact Hv
   go_wp2_with (first|(refine wpList_load_row rfl 25 (.tmp 3) rfl (w.heap.size+1+1) rfl 25 (Am o).toArray (0,0) _ hO underlying25 rfl hco ?_)|(refine wpList_store_row rfl 25 (.tmp 2) (.tmp 43) rfl (w.heap.size+1) (Am o).toArray rfl rfl 25 _ hR hco (by rw[EP o ho];rfl) (NM o) ?_));refine bodyPost_ret (v:=.agg (Am o).toArray) (results_cell_row rfl _ _ (w.heap.size+1) 25 (Am o).toArray (0,0) _ rfl (setRow_heap wr (w.heap.size+1) _ _ _ _ hR) underlying25 rfl hco) rfl ⟨o,ho,rfl,fun i k hi hk=>HW.out.done i k hi hk,below_setRow hB (by omega) _⟩
end
end Go.Proofs.YtpbfiffgcgnidaaGreat
