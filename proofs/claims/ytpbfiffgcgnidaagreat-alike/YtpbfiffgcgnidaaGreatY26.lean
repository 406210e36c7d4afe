import Derived.Test.YtpbfiffgcgnidaaGreatYal
import Derived.Test.YtpbfiffgcgnidaaGreatY7
import Derived.Test.YtpbfiffgcgnidaaGreatY20
namespace Go.Proofs.YtpbfiffgcgnidaaGreat
set_option maxRecDepth 100000
set_option maxHeartbeats 4000000
set_option linter.unusedSimpArgs false
open Go.Proofs.Tryz
section
attribute [local go_sem] drewN_alloc drewN_setCell
open Go.RowKit Go.WideMaps Go.Maps
theorem infoG:(prog.info? 25).map (fun i=>i.size)=some 16:=by kernel_rfl
theorem oneG(q:List Bool):(gCells q).toArray.all (fun x=>x.oneCell')=true:=by simp[gCells,Value.oneCell']
theorem gSize(q:List Bool)(hq:q.length=16):(gCells q).toArray.size=16:=by simp[gCells,hq]
theorem gCell{W:World}{b:Nat}{o:List Bool}(h:Blk W b (gCells o) 25)(ho:o.length=16)(i k:Nat)(hi:i<4)(hk:k<4):W.cell? ⟨b,i*4+k,none⟩=some (.bool (gOf o i k)):=by rw[h.cell];simp[gCells,gOf,show i*4+k=4*i+k by omega,show 4*i+k<o.length by omega]
theorem gPut{W:World}{b:Nat}{o:List Bool}(h:Blk W b (gCells o) 25)(i k:Nat)(x:Bool):Blk (W.setCell ⟨b,i*4+k,none⟩ (.bool x)) b (gCells (o.set (4*i+k) x)) 25:=by have:=h.setCell (i*4+k) (.bool x);rw[show i*4+k=4*i+k by omega]at this⊢;unfold gCells at this⊢;rw[List.map_set];exact this
theorem gWars{g:Nat->Nat->Bool}{o:List Bool}{m i k:Nat}(h:Wars g (gOf o) m i k)(ho:o.length=16)(hm:m<4)(hi:i<4)(hk:k<4)(x:Bool)(hx:x=(gOf o i k||gOf o i m&&gOf o m k)):Wars g (gOf (o.set (4*i+k) x)) m i (k+1):=by refine(h.step hm hi hk).congr (by omega) (by omega) (.inl hi) ?_;intro a b ha hb;rw[gOf_set o ho i k hi hk x a b ha hb,hx];rfl
theorem paths_c(w:World)(q:List Bool)(hq:q.length=16):
 Calls prog 8 #[.agg (gCells q).toArray] w fun e w'=>∃o:List Bool,o.length=16/\e=.returned (.agg (gCells o).toArray)/\(∀i k,i<4->k<4->(gOf o i k=true↔Leads (gOf q) i k))/\Below w.heap.size w w':=by
 have hG0:=((Blk.new w (gCells q) 25).alloc (.cells zG.toArray 25)).alloc (.cells zG.toArray 25);have hR0:=(Blk.new (w.alloc (.cells (gCells q).toArray 25)) zG 25).alloc (.cells zG.toArray 25);have hO0:=Blk.new ((w.alloc (.cells (gCells q).toArray 25)).alloc (.cells zG.toArray 25)) zG 25;have hB0:=(((Below.refl w.heap.size w).alloc (Nat.le_refl _) (.cells (gCells q).toArray 25)).alloc (by simp) (.cells zG.toArray 25)).alloc (by simp;omega) (.cells zG.toArray 25);simp only[World.size_alloc]at hR0 hO0;have hcg:(prog.info? 25).map (fun i=>i.size)=some (gCells q).toArray.size:=by rw[gSize q hq];exact infoG
 go_enter func8,ntmps8;go_wp2_with (first|(refine wpList_load_row rfl 25 (.tmp 1) rfl w.heap.size rfl 25 (gCells q).toArray (0,0) _ (by first|exact hG0|exact(Blk.new w (gCells q) 25).alloc (.cells zG.toArray 25)) underlying25 rfl hcg ?_)|(refine wpList_store_row rfl 25 (.tmp 3) (.tmp 7) rfl (w.heap.size+1+1) (gCells q).toArray rfl rfl 25 _ hO0 hcg (by rw[gSize q hq];rfl) (oneG q) ?_));have hR1:=hR0.rowOff (w.heap.size+1+1) (gCells q).toArray (by omega);have hO1:=hO0.row (gCells q);have hB1:=below_setRow hB0 (show w.heap.size<=w.heap.size+1+1 by omega) (gCells q).toArray;clear hG0 hR0 hO0 hB0
 go_loopw [4] (fun mv wr=>∃(m:Nat) (o:List Bool),m<=4/\mv=.int .i64 m/\o.length=16/\Hid (Wars (gOf q) (gOf o) m 0 0)/\Blk wr (w.heap.size+1) zG 25/\Blk wr (w.heap.size+1+1) (gCells o) 25/\Below w.heap.size w wr) (fun mv _=>4-(intOf mv).toNat)
 case atStart=>exact⟨0,q,by omega,rfl,hq,Wars.start _,hR1,hO1,hB1⟩
 case round=>
  clear hR1 hO1 hB1;obtain⟨m,o,hm,rfl,ho,HW,hR,hO,hB⟩:=hrel;by_cases hlm:m<4
  ·go_wp2_with fail;generalize decide ((m:Int)<4)=bb
   go_loopw [5] (fun iv wr=>∃(i:Nat) (o:List Bool),i<=4/\iv=.int .i64 i/\o.length=16/\Hid (Wars (gOf q) (gOf o) m i 0)/\Blk wr (w.heap.size+1) zG 25/\Blk wr (w.heap.size+1+1) (gCells o) 25/\Below w.heap.size w wr) (fun iv _=>4-(intOf iv).toNat)
   case atStart=>exact⟨0,o,by omega,rfl,ho,HW,hR,hO,hB⟩
   case round=>
    clear HW hR hO hB ho;clear o;obtain⟨i,o,hi,rfl,ho,HW,hR,hO,hB⟩:=hrel;by_cases hli:i<4
    ·go_wp2_with fail;generalize decide ((i:Int)<4)=bc
     go_loopw [6] (fun kv wr=>∃(k:Nat) (o:List Bool),k<=4/\kv=.int .i64 k/\o.length=16/\Hid (Wars (gOf q) (gOf o) m i k)/\Blk wr (w.heap.size+1) zG 25/\Blk wr (w.heap.size+1+1) (gCells o) 25/\Below w.heap.size w wr) (fun kv _=>4-(intOf kv).toNat)
     case atStart=>exact⟨0,o,by omega,rfl,ho,HW,hR,hO,hB⟩
     case round=>
      clear HW hR hO hB ho;clear o;obtain⟨k,o,hk,rfl,ho,HW,hR,hO,hB⟩:=hrel;by_cases hlk:k<4
      ·have c1:=gCell hO ho i k hli hlk;have c2:=gCell hO ho i m hli hlm;have c3:=gCell hO ho m k hlm hlk;have fO:=hO.frozen;have hlt:=hO.lt;have HN:=hid (fun x hx=>gWars HW.out ho hlm hli hlk x hx);generalize gOf o i k=x at*;generalize gOf o i m=y at*;generalize gOf o m k=z at*;clear HW;cases x<;>cases y<;>cases z
       all_goals
        go_wp2_with fail;go_region;go_wp2_with fail;exact⟨⟨k+1,o.set (4*i+k) _,hlk,by go_num,by rw[List.length_set];exact ho,HN.out _ rfl,(hR.setOther _ _ (by simp only[];omega)).drew,(gPut hO i k _).drew,(hB.setCell (by simp only[];omega) _).drew⟩,by simp[intOf];omega⟩
      ·have hke:k=4:=by omega
       subst hke;go_wp2_with fail;exact⟨⟨i+1,o,hli,by go_num,ho,HW.out.nextI,hR,hO,hB⟩,by simp[intOf];omega⟩
    ·have hie:i=4:=by omega
     subst hie;go_wp2_with fail;exact⟨⟨m+1,o,hlm,by go_num,ho,HW.out.nextM,hR,hO,hB⟩,by simp[intOf];omega⟩
  ·have hme:m=4:=by omega
   subst hme;have hco:(prog.info? 25).map (fun i=>i.size)=some (gCells o).toArray.size:=by rw[gSize o ho];exact infoG
   go_wp2_with (first|(refine wpList_load_row rfl 25 (.tmp 3) rfl (w.heap.size+1+1) rfl 25 (gCells o).toArray (0,0) _ hO underlying25 rfl hco ?_)|(refine wpList_store_row rfl 25 (.tmp 2) (.tmp 43) rfl (w.heap.size+1) (gCells o).toArray rfl rfl 25 _ hR hco (by rw[gSize o ho];rfl) (oneG o) ?_));refine bodyPost_ret (v:=.agg (gCells o).toArray) (results_cell_row rfl _ _ (w.heap.size+1) 25 (gCells o).toArray (0,0) _ rfl (setRow_heap wr (w.heap.size+1) _ _ _ _ hR) underlying25 rfl hco) rfl ⟨o,ho,rfl,fun i k hi hk=>HW.out.done i k hi hk,below_setRow hB (by omega) _⟩
end
end Go.Proofs.YtpbfiffgcgnidaaGreat
