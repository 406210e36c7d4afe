import Derived.Test.YtpbfiffgcgnidaaGreatYal
import Derived.Deep.RegionHeld3
import Derived.Test.YtpbfiffgcgnidaaGreatY31
import Derived.Test.YtpbfiffgcgnidaaGreatY32
namespace Go.Proofs.YtpbfiffgcgnidaaGreat
set_option maxRecDepth 100000
set_option maxHeartbeats 4000000
set_option linter.unusedSectionVars false
set_option linter.unusedSimpArgs false
open Go.Proofs.Tryz
section
attribute [local go_sem] drewN_alloc drewN_setCell
open Go.RowKit Go.WideMaps Go.Maps
variable [DecidableEq R3] [DecidableEq A4]
theorem yields_loadU{ops:Array Oper}{o:Oper}{a:Act}{S:World->Prop}(hg:o.guard=none)(x:Operand)(ho:o.op=.load 118 x)(R:Nat)(hx:a.eval x=.pointer (some ⟨R,0,none⟩))(r:RuD)(hS:∀W,S W->Blk W R (cellsU r) 118):YieldsIf prog ops S o (.agg (cellsU r).toArray) a:=by refine Or.inl ⟨by simp[Region.wanted,hg],fun W hW=>?_⟩;unfold execOp;simp only[ho,hx,Instr.loadAt,Instr.sureAddr,Sem.run_bind,Sem.run_pure,Result.andThen_ok,run_loadVar_row W R 118 118 (cellsU r).toArray (0,0) _ (hS W hW) underlying118 rfl infoU]
theorem wp_allocU{o:Oper}{a:Act}{w:World}{K:Act->World->Prop}{Q:Exit->Act->World->Prop}(ho:o.op=.alloc 118)(h:K (a.put o.dst (.pointer (some ⟨w.heap.size,0,none⟩))) (w.alloc (.cells zU.toArray 118))):o.wp prog a w K Q:=by unfold Oper.wp execOp;simp[ho,go_sem];exact h
theorem Blk.setRowOther{w:World}{b g:Nat}{cs:List Value}{t:TypeId}{cells:Array Value}(h:Blk w b cs t)(hn:b≠g):Blk (w.setRow g cells) b cs t:=by have:=Go.setRow_other w g b cells hn;unfold Blk at*;rw[this];exact h
theorem pos_c(hcut:CutOk){M:Int->R3->Prop}{lay:Int->Nat}{N C base tb:Nat}{D:TD}(hX:SCtx M lay N C D){sb l:Nat}(k:Nat)(hJ:JoinOk M lay N C base tb D sb l k):PosOk M lay N C base tb D sb l k:=by
 intro w own S nd r p g t hk hpp h ht hr;have hB0:=below_alloc w (.cells (cellsU r).toArray 118);have hR0:=Blk.new w (cellsU r) 118;have hcnt:=hr.wf.cnt;have hpos:=hr.wf.pos;obtain⟨V,hT⟩:=h.t
 have hRo:own w.heap.size=none:=by
  cases e:own w.heap.size with
  |none=>rfl
  |some o=>exact absurd (hT.ok.lt _ o e).2 (by omega)
 go_enter func147,ntmps147;go_upto_region 1 with fail
 generalize w.alloc (Obj.cells (cellsU r).toArray 118)=w0 at*;have h0:=h.below hB0;have hW0:Went (Ch sb) own w own w0:=Went.below hB0;have hlR:=hR0.lt;have hlt:p<r.cnt:=by omega
 have hq:QOk N C (r.b p):=⟨hr.names p hlt,fun y hy=>hr.small.2 p y hy⟩;obtain⟨b0,b1,b2,b3⟩:=body_cell hR0 p (by omega);have HN:=hid (need_c hcut hX w0 own S nd h0 (r.b p) hq ((hr.lay p hlt).1 hpp));go_wp2_with (go_at_call 86;refine(HN.out).mono ?_;rintro e w1 ⟨own1,S1,nd1,i0,t0,rfl,hn⟩);have hR1:=hR0.went hn.went hRo;have hRo1:=hn.went.none hlR hRo;have hW1:=hW0.trans hn.went;obtain⟨tt1,htt1,hle1⟩:=hn.grow.at' g t ht;have hb0:=hn.sr.inv;have hlrr:=hX.li.r;clear HN b0 b1 b2 b3;obtain⟨B,HBB⟩:∃B:Nat,Hid (1*C*C*C=B):=⟨_,rfl⟩;rw[HBB.out]at hlrr
 go_loopw [9] (fun iv wr=>∃(j:Nat) (own2:OwnF) (S2:List TabD) (nd2:List Nat) (t2:TabD),iv=.int .i64 (j:Nat)/\Sr M lay N C base tb D sb l wr own2 S2 nd2/\Grow S1 S2/\nd1<+:nd2/\Went (Ch sb) own w own2 wr/\S2[i0]? =some t2/\j<=t2.rows.length/\Hid (sizeT S2=sizeT S->∀x∈t2.rows.take j,∀met,fitG r (r.b p).r x=some met->JD M S2 nd2 k met (p+1) g)/\Blk wr w.heap.size (cellsU r) 118/\own2 w.heap.size=none) (fun iv _=>B-(intOf iv).toNat)
 case atStart=>exact⟨0,own1,S1,nd1,t0,rfl,hn.sr,.refl _,List.prefix_refl _,hW1,hn.ht,Nat.zero_le _,fun _ x hx=>by simp at hx,hR1,hRo1⟩
 case round=>
  obtain⟨j,own2,S2,nd2,t2,rfl,hs2,hG2,hd2,hW2,ht2,hj,HD,hR2,hRo2⟩:=hrel;obtain⟨V2,hT2⟩:=hs2.t;obtain⟨ru,tm,tl,hTab⟩:=hT2.tabs i0 t2 ht2
  have hle:t0.Le t2:=by
   obtain⟨y,hy,hl⟩:=hG2.at' i0 t0 hn.ht;rw[ht2]at hy
   injection hy with hy
   subst hy;exact hl
  have hrf:=rows_few hs2.inv (fun n x h=>holds_small hX.st hX.ro h) (List.mem_of_getElem? ht2);rw[HBB.out]at hrf;have htb2:=hTab.blk.lt;have hbe:=hle.b;have HLen:=hid (lenR_c wr base t2.b 1 tm tl t2.rows (hTab.blk.cell 2) hTab.rows);rw[hbe]at HLen;by_cases hlt2:j<t2.rows.length
  ·have hd:decide ((j:Int)<(t2.rows.length:Int))=true:=by simp;omega
   go_upto_region 5 with(go_at_call 68;refine(HLen.out).mono ?_;rintro e w9 ⟨he,hw9⟩;subst w9;subst he);have hp4:p<4:=by omega
   have hp4i:¬(4:Int)<=(p:Int):=by omega
   have hXm:t2.rows[j]∈t2.rows:=List.getElem_mem hlt2;have hTb:Blk wr t0.b [ru,tm,tl,.bool t2.fin] 152:=by rw[<-hbe];exact hTab.blk
   have hTs:=hTab.rows;have hlRr:=hR2.lt;have bwr:Below wr.heap.size wr wr.drew:=(Below.refl _ _).drew;obtain⟨X,hXe⟩:∃X,t2.rows[j]=X:=⟨_,rfl⟩;have HAt:∀W,Below wr.heap.size wr W->Calls prog 70 #[.pointer (some ⟨t0.b,1,none⟩),.int .i64 j] W fun e w'=>e=.returned (.agg #[.int .i64 X.a,.int .i64 X.b,.int .i64 X.c])/\Below W.heap.size W w':=by intro W hb;have:=atR_c W base t0.b 1 tm tl t2.rows ((hTb.below hb).cell 2) (hTs.below hb) j hlt2;rw[hXe]at this;exact this
   go_cut [10,11] from 18 to 47 (fun x y wx=>∃(mb:Nat) (q:RuD),x=.pointer (some ⟨mb,0,none⟩)/\y=.bool (fitG r (r.b p).r X).isSome/\wr.heap.size<=mb/\Blk wx mb (cellsU q) 118/\(∀x',fitG r (r.b p).r X=some x'->q=x')/\Below wr.heap.size wr wx)
   case first=>as_aux_lemma=>
    refine wp_region_held_drew (S:=fun W=>Blk W w.heap.size (cellsU r) 118) (by kernel_rfl) hR2.drew (fun hH=>?_);refine wpAnyH_take (i:=0) (v:=_) rfl (by kernel_rfl) (by kernel_rfl) (by kernel_rfl) (fun _ _ _ h=>h) (yields_loadU rfl (.tmp 5) rfl w.heap.size rfl r (fun _ h=>h)) hH ?_
    try simp only[List.getElem_toArray,List.getElem_cons_zero,List.getElem_cons_succ,Act.put,List.setIfInBounds_toArray,List.set_cons_zero,List.set_cons_succ]
    refine wpAnyH_take (i:=1) (v:=.int .i64 (p:Nat)) rfl (by kernel_rfl) (by kernel_rfl) (by kernel_rfl) (fun _ _ _ h=>h) (Or.inl ⟨by rfl,fun W hW=>by go_simp⟩) hH ?_
    try simp only[List.getElem_toArray,List.getElem_cons_zero,List.getElem_cons_succ,Act.put,List.setIfInBounds_toArray,List.set_cons_zero,List.set_cons_succ]
    refine wpAnyH_take (i:=2) (v:=.pointer (some ⟨w.heap.size,4,none⟩)) rfl (by kernel_rfl) (by kernel_rfl) (by kernel_rfl) (fun _ _ _ h=>h) (Or.inl ⟨by rfl,fun W hW=>by go_simp⟩) hH ?_
    try simp only[List.getElem_toArray,List.getElem_cons_zero,List.getElem_cons_succ,Act.put,List.setIfInBounds_toArray,List.set_cons_zero,List.set_cons_succ]
    refine wpAnyH_take (i:=3) (v:=.pointer (some ⟨w.heap.size,4+p*4,none⟩)) rfl (by kernel_rfl) (by kernel_rfl) (by kernel_rfl) (fun _ _ _ h=>h) (Or.inl ⟨by rfl,fun W hW=>by go_simp⟩) hH ?_
    try simp only[List.getElem_toArray,List.getElem_cons_zero,List.getElem_cons_succ,Act.put,List.setIfInBounds_toArray,List.set_cons_zero,List.set_cons_succ]
    refine wpAnyH_take (i:=4) (v:=.pointer (some ⟨w.heap.size,4+p*4+1,none⟩)) rfl (by kernel_rfl) (by kernel_rfl) (by kernel_rfl) (fun _ _ _ h=>h) (Or.inl ⟨by rfl,fun W hW=>by go_simp⟩) hH ?_
    try simp only[List.getElem_toArray,List.getElem_cons_zero,List.getElem_cons_succ,Act.put,List.setIfInBounds_toArray,List.set_cons_zero,List.set_cons_succ]
    refine wpAnyH_take (i:=5) (v:=.agg #[.int .i64 (r.b p).r.a,.int .i64 (r.b p).r.b,.int .i64 (r.b p).r.c]) rfl (by kernel_rfl) (by kernel_rfl) (by kernel_rfl) (fun _ _ _ h=>h) (Or.inl ⟨by rfl,fun W hW=>by obtain⟨b0,b1,b2,b3⟩:=body_cell hW p hp4;go_simp⟩) hH ?_
    try simp only[List.getElem_toArray,List.getElem_cons_zero,List.getElem_cons_succ,Act.put,List.setIfInBounds_toArray,List.set_cons_zero,List.set_cons_succ]
    refine wpAnyH_take (i:=6) (v:=.pointer (some ⟨t0.b,0,none⟩)) rfl (by kernel_rfl) (by kernel_rfl) (by kernel_rfl) (fun _ _ _ h=>h) (Or.inl ⟨by rfl,fun W hW=>by go_simp⟩) hH ?_
    try simp only[List.getElem_toArray,List.getElem_cons_zero,List.getElem_cons_succ,Act.put,List.setIfInBounds_toArray,List.set_cons_zero,List.set_cons_succ]
    refine wpAnyH_take (i:=7) (v:=.pointer (some ⟨t0.b,0,none⟩)) rfl (by kernel_rfl) (by kernel_rfl) (by kernel_rfl) (fun _ _ _ h=>h) (Or.inl ⟨by rfl,fun W hW=>by go_simp⟩) hH ?_
    try simp only[List.getElem_toArray,List.getElem_cons_zero,List.getElem_cons_succ,Act.put,List.setIfInBounds_toArray,List.set_cons_zero,List.set_cons_succ]
    refine wpAnyH_take (i:=8) (v:=.pointer (some ⟨t0.b,1,none⟩)) rfl (by kernel_rfl) (by kernel_rfl) (by kernel_rfl) (fun _ _ _ h=>h) (Or.inl ⟨by rfl,fun W hW=>by go_simp⟩) hH ?_
    try simp only[List.getElem_toArray,List.getElem_cons_zero,List.getElem_cons_succ,Act.put,List.setIfInBounds_toArray,List.set_cons_zero,List.set_cons_succ]
    refine wpAnyH_take (i:=9) (v:=.int .i64 (j:Nat)) rfl (by kernel_rfl) (by kernel_rfl) (by kernel_rfl) (fun _ _ _ h=>h) (Or.inl ⟨by rfl,fun W hW=>by go_simp⟩) hH ?_
    try simp only[List.getElem_toArray,List.getElem_cons_zero,List.getElem_cons_succ,Act.put,List.setIfInBounds_toArray,List.set_cons_zero,List.set_cons_succ]
    refine wpAnyH_ready (rs:=[10,15]) (by kernel_rfl) (by simp) ?_;refine AllReadyH.cons rfl (fun K hK=>?_) ?_
    ·as_aux_lemma=>
     go_simp;go_wp2_with (go_at_call 70;refine(HAt _ bwr).mono ?_;rintro e x1 ⟨rfl,hB1⟩);have b1:=(bwr).trans (hB1.mono (bwr).size);have s1:=hB1.size;refine hK.out _ _ (Blk.below hH hB1) (fun hH1=>?_)
     try simp only[List.getElem_toArray,List.getElem_cons_zero,List.getElem_cons_succ,Act.put,List.setIfInBounds_toArray,List.set_cons_zero,List.set_cons_succ]
     refine wpAnyH_ready (rs:=[11,15]) (by kernel_rfl) (by simp) ?_;refine AllReadyH.cons rfl (fun K hK=>?_) ?_
     ·as_aux_lemma=>
      go_simp;go_wp2_with (go_at_call 156;refine(fit_c _ r (r.b p).r X hcnt).mono ?_;rintro e x2 ⟨⟨q2,rfl,hq2f⟩,hB2⟩);have b2:=(b1).trans (hB2.mono (b1).size);have s2:=hB2.size;refine hK.out _ _ (Blk.below hH1 hB2) (fun hH2=>?_)
      try simp only[List.getElem_toArray,List.getElem_cons_zero,List.getElem_cons_succ,Act.put,List.setIfInBounds_toArray,List.set_cons_zero,List.set_cons_succ]
      refine wpAnyH_take (i:=12) (v:=.tuple #[.agg (cellsU q2).toArray,.bool (fitG r (r.b p).r X).isSome]) rfl (by kernel_rfl) (by kernel_rfl) (by kernel_rfl) (fun _ _ _ h=>h) (Or.inl ⟨by rfl,fun W hW=>by go_simp⟩) hH2 ?_
      try simp only[List.getElem_toArray,List.getElem_cons_zero,List.getElem_cons_succ,Act.put,List.setIfInBounds_toArray,List.set_cons_zero,List.set_cons_succ]
      refine wpAnyH_take (i:=13) (v:=.agg (cellsU q2).toArray) rfl (by kernel_rfl) (by kernel_rfl) (by kernel_rfl) (fun _ _ _ h=>h) (Or.inl ⟨by rfl,fun W hW=>by go_simp⟩) hH2 ?_
      try simp only[List.getElem_toArray,List.getElem_cons_zero,List.getElem_cons_succ,Act.put,List.setIfInBounds_toArray,List.set_cons_zero,List.set_cons_succ]
      refine wpAnyH_take (i:=14) (v:=.bool (fitG r (r.b p).r X).isSome) rfl (by kernel_rfl) (by kernel_rfl) (by kernel_rfl) (fun _ _ _ h=>h) (Or.inl ⟨by rfl,fun W hW=>by go_simp⟩) hH2 ?_
      try simp only[List.getElem_toArray,List.getElem_cons_zero,List.getElem_cons_succ,Act.put,List.setIfInBounds_toArray,List.set_cons_zero,List.set_cons_succ]
      refine wpAnyH_ready (rs:=[15]) (by kernel_rfl) (by simp) ?_;refine AllReadyH.cons rfl (fun K hK=>?_) ?_
      ·as_aux_lemma=>
       rw[if_pos (by rfl)];refine wp_allocU rfl ?_;have b3:=(b2).alloc (by have:=(b2).size;simp at this⊢ <;>omega) (.cells zU.toArray 118);have m3:=Blk.new (x2) zU 118;have s3:=(b2).size;refine hK.out _ _ (Blk.alloc hH2 _) (fun hH3=>?_)
       try simp only[List.getElem_toArray,List.getElem_cons_zero,List.getElem_cons_succ,Act.put,List.setIfInBounds_toArray,List.set_cons_zero,List.set_cons_succ]
       refine wpAnyH_ready (rs:=[16]) (by kernel_rfl) (by simp) ?_;refine AllReadyH.cons rfl (fun K hK=>?_) ?_
       ·as_aux_lemma=>
        rw[if_pos (by rfl)];refine wp_store_row 118 (.tmp 10) (.tmp 39) rfl (x2).heap.size (cellsU q2).toArray rfl rfl 118 zU.toArray m3 infoU rfl (oneU q2) ?_;refine hK.out _ _ ?_ (fun hH9=>?_)
        ·exact Blk.setRowOther hH3 (by omega)
        try simp only[List.getElem_toArray,List.getElem_cons_zero,List.getElem_cons_succ,Act.put,List.setIfInBounds_toArray,List.set_cons_zero,List.set_cons_succ]
        refine wpAnyH_take (i:=17) (v:=.bool (fitG r (r.b p).r X).isSome) rfl (by kernel_rfl) (by kernel_rfl) (by kernel_rfl) (fun _ _ _ h=>h) (Or.inl ⟨by rfl,fun W hW=>by go_simp⟩) hH9 ?_
        try simp only[List.getElem_toArray,List.getElem_cons_zero,List.getElem_cons_succ,Act.put,List.setIfInBounds_toArray,List.set_cons_zero,List.set_cons_succ]
        refine wpAnyH_done (by kernel_rfl) ?_ _;go_wp2_with fail;go_meet;exact⟨(x2).heap.size,q2,rfl,rfl,by omega,setRow_heap _ _ _ _ _ _ m3,hq2f,below_setRow b3 (by omega) _⟩
       exact AllReadyH.nil
      exact AllReadyH.nil
     refine AllReadyH.cons rfl (fun K hK=>?_) ?_
     ·as_aux_lemma=>
      rw[if_pos (by rfl)];refine wp_allocU rfl ?_;have b4:=(b1).alloc (by have:=(b1).size;simp at this⊢ <;>omega) (.cells zU.toArray 118);have m4:=Blk.new (x1) zU 118;have s4:=(b1).size;refine hK.out _ _ (Blk.alloc hH1 _) (fun hH4=>?_)
      try simp only[List.getElem_toArray,List.getElem_cons_zero,List.getElem_cons_succ,Act.put,List.setIfInBounds_toArray,List.set_cons_zero,List.set_cons_succ]
      refine wpAnyH_ready (rs:=[11]) (by kernel_rfl) (by simp) ?_;refine AllReadyH.cons rfl (fun K hK=>?_) ?_
      ·as_aux_lemma=>
       go_simp;go_wp2_with (go_at_call 156;refine(fit_c _ r (r.b p).r X hcnt).mono ?_;rintro e x5 ⟨⟨q5,rfl,hq5f⟩,hB5⟩);have b5:=(b4).trans (hB5.mono (b4).size);have s5:=hB5.size;have m5:=Blk.below m4 hB5;refine hK.out _ _ (Blk.below hH4 hB5) (fun hH5=>?_)
       try simp only[List.getElem_toArray,List.getElem_cons_zero,List.getElem_cons_succ,Act.put,List.setIfInBounds_toArray,List.set_cons_zero,List.set_cons_succ]
       refine wpAnyH_take (i:=12) (v:=.tuple #[.agg (cellsU q5).toArray,.bool (fitG r (r.b p).r X).isSome]) rfl (by kernel_rfl) (by kernel_rfl) (by kernel_rfl) (fun _ _ _ h=>h) (Or.inl ⟨by rfl,fun W hW=>by go_simp⟩) hH5 ?_
       try simp only[List.getElem_toArray,List.getElem_cons_zero,List.getElem_cons_succ,Act.put,List.setIfInBounds_toArray,List.set_cons_zero,List.set_cons_succ]
       refine wpAnyH_take (i:=13) (v:=.agg (cellsU q5).toArray) rfl (by kernel_rfl) (by kernel_rfl) (by kernel_rfl) (fun _ _ _ h=>h) (Or.inl ⟨by rfl,fun W hW=>by go_simp⟩) hH5 ?_
       try simp only[List.getElem_toArray,List.getElem_cons_zero,List.getElem_cons_succ,Act.put,List.setIfInBounds_toArray,List.set_cons_zero,List.set_cons_succ]
       refine wpAnyH_take (i:=14) (v:=.bool (fitG r (r.b p).r X).isSome) rfl (by kernel_rfl) (by kernel_rfl) (by kernel_rfl) (fun _ _ _ h=>h) (Or.inl ⟨by rfl,fun W hW=>by go_simp⟩) hH5 ?_
       try simp only[List.getElem_toArray,List.getElem_cons_zero,List.getElem_cons_succ,Act.put,List.setIfInBounds_toArray,List.set_cons_zero,List.set_cons_succ]
       refine wpAnyH_ready (rs:=[16]) (by kernel_rfl) (by simp) ?_;refine AllReadyH.cons rfl (fun K hK=>?_) ?_
       ·as_aux_lemma=>
        rw[if_pos (by rfl)];refine wp_store_row 118 (.tmp 10) (.tmp 39) rfl (x1).heap.size (cellsU q5).toArray rfl rfl 118 zU.toArray m5 infoU rfl (oneU q5) ?_;refine hK.out _ _ ?_ (fun hH9=>?_)
        ·exact Blk.setRowOther hH5 (by omega)
        try simp only[List.getElem_toArray,List.getElem_cons_zero,List.getElem_cons_succ,Act.put,List.setIfInBounds_toArray,List.set_cons_zero,List.set_cons_succ]
        refine wpAnyH_take (i:=17) (v:=.bool (fitG r (r.b p).r X).isSome) rfl (by kernel_rfl) (by kernel_rfl) (by kernel_rfl) (fun _ _ _ h=>h) (Or.inl ⟨by rfl,fun W hW=>by go_simp⟩) hH9 ?_
        try simp only[List.getElem_toArray,List.getElem_cons_zero,List.getElem_cons_succ,Act.put,List.setIfInBounds_toArray,List.set_cons_zero,List.set_cons_succ]
        refine wpAnyH_done (by kernel_rfl) ?_ _;go_wp2_with fail;go_meet;exact⟨(x1).heap.size,q5,rfl,rfl,by omega,setRow_heap _ _ _ _ _ _ m5,hq5f,below_setRow b5 (by omega) _⟩
       exact AllReadyH.nil
      exact AllReadyH.nil
     exact AllReadyH.nil
    refine AllReadyH.cons rfl (fun K hK=>?_) ?_
    ·as_aux_lemma=>
     rw[if_pos (by rfl)];refine wp_allocU rfl ?_;have b6:=(bwr).alloc (by have:=(bwr).size;simp at this⊢ <;>omega) (.cells zU.toArray 118);have m6:=Blk.new (wr.drew) zU 118;have s6:=(bwr).size;refine hK.out _ _ (Blk.alloc hH _) (fun hH6=>?_)
     try simp only[List.getElem_toArray,List.getElem_cons_zero,List.getElem_cons_succ,Act.put,List.setIfInBounds_toArray,List.set_cons_zero,List.set_cons_succ]
     refine wpAnyH_ready (rs:=[10]) (by kernel_rfl) (by simp) ?_;refine AllReadyH.cons rfl (fun K hK=>?_) ?_
     ·as_aux_lemma=>
      go_simp;go_wp2_with (go_at_call 70;refine(HAt _ b6).mono ?_;rintro e x7 ⟨rfl,hB7⟩);have b7:=(b6).trans (hB7.mono (b6).size);have s7:=hB7.size;have m7:=Blk.below m6 hB7;refine hK.out _ _ (Blk.below hH6 hB7) (fun hH7=>?_)
      try simp only[List.getElem_toArray,List.getElem_cons_zero,List.getElem_cons_succ,Act.put,List.setIfInBounds_toArray,List.set_cons_zero,List.set_cons_succ]
      refine wpAnyH_ready (rs:=[11]) (by kernel_rfl) (by simp) ?_;refine AllReadyH.cons rfl (fun K hK=>?_) ?_
      ·as_aux_lemma=>
       go_simp;go_wp2_with (go_at_call 156;refine(fit_c _ r (r.b p).r X hcnt).mono ?_;rintro e x8 ⟨⟨q8,rfl,hq8f⟩,hB8⟩);have b8:=(b7).trans (hB8.mono (b7).size);have s8:=hB8.size;have m8:=Blk.below m7 hB8;refine hK.out _ _ (Blk.below hH7 hB8) (fun hH8=>?_)
       try simp only[List.getElem_toArray,List.getElem_cons_zero,List.getElem_cons_succ,Act.put,List.setIfInBounds_toArray,List.set_cons_zero,List.set_cons_succ]
       refine wpAnyH_take (i:=12) (v:=.tuple #[.agg (cellsU q8).toArray,.bool (fitG r (r.b p).r X).isSome]) rfl (by kernel_rfl) (by kernel_rfl) (by kernel_rfl) (fun _ _ _ h=>h) (Or.inl ⟨by rfl,fun W hW=>by go_simp⟩) hH8 ?_
       try simp only[List.getElem_toArray,List.getElem_cons_zero,List.getElem_cons_succ,Act.put,List.setIfInBounds_toArray,List.set_cons_zero,List.set_cons_succ]
       refine wpAnyH_take (i:=13) (v:=.agg (cellsU q8).toArray) rfl (by kernel_rfl) (by kernel_rfl) (by kernel_rfl) (fun _ _ _ h=>h) (Or.inl ⟨by rfl,fun W hW=>by go_simp⟩) hH8 ?_
       try simp only[List.getElem_toArray,List.getElem_cons_zero,List.getElem_cons_succ,Act.put,List.setIfInBounds_toArray,List.set_cons_zero,List.set_cons_succ]
       refine wpAnyH_take (i:=14) (v:=.bool (fitG r (r.b p).r X).isSome) rfl (by kernel_rfl) (by kernel_rfl) (by kernel_rfl) (fun _ _ _ h=>h) (Or.inl ⟨by rfl,fun W hW=>by go_simp⟩) hH8 ?_
       try simp only[List.getElem_toArray,List.getElem_cons_zero,List.getElem_cons_succ,Act.put,List.setIfInBounds_toArray,List.set_cons_zero,List.set_cons_succ]
       refine wpAnyH_ready (rs:=[16]) (by kernel_rfl) (by simp) ?_;refine AllReadyH.cons rfl (fun K hK=>?_) ?_
       ·as_aux_lemma=>
        rw[if_pos (by rfl)];refine wp_store_row 118 (.tmp 10) (.tmp 39) rfl (wr.drew).heap.size (cellsU q8).toArray rfl rfl 118 zU.toArray m8 infoU rfl (oneU q8) ?_;refine hK.out _ _ ?_ (fun hH9=>?_)
        ·exact Blk.setRowOther hH8 (by omega)
        try simp only[List.getElem_toArray,List.getElem_cons_zero,List.getElem_cons_succ,Act.put,List.setIfInBounds_toArray,List.set_cons_zero,List.set_cons_succ]
        refine wpAnyH_take (i:=17) (v:=.bool (fitG r (r.b p).r X).isSome) rfl (by kernel_rfl) (by kernel_rfl) (by kernel_rfl) (fun _ _ _ h=>h) (Or.inl ⟨by rfl,fun W hW=>by go_simp⟩) hH9 ?_
        try simp only[List.getElem_toArray,List.getElem_cons_zero,List.getElem_cons_succ,Act.put,List.setIfInBounds_toArray,List.set_cons_zero,List.set_cons_succ]
        refine wpAnyH_done (by kernel_rfl) ?_ _;go_wp2_with fail;go_meet;exact⟨(wr.drew).heap.size,q8,rfl,rfl,by omega,setRow_heap _ _ _ _ _ _ m8,hq8f,below_setRow b8 (by omega) _⟩
       exact AllReadyH.nil
      exact AllReadyH.nil
     exact AllReadyH.nil
    exact AllReadyH.nil
   case rest=>
    obtain⟨mb,q,rfl,rfl,hmb,hM3,hqf,hB3⟩:=hcut;obtain⟨w3,hw3⟩:∃x:World,x=wc:=⟨wc,rfl⟩;subst hw3;have hs3:=hs2.below hB3;have hR3:=hR2.below hB3;have hW3:Went (Ch sb) own w own2 w3:=hW2.thenBelow hB3;have hbound:j+1<=B:=by omega
    have htk:t2.rows.take (j+1)=t2.rows.take j++[X]:=by rw[List.take_succ_eq_append_getElem hlt2,hXe]
    have hMX:M (r.b p).n X:=by have:=(hs2.inv.sound t2 (List.mem_of_getElem? ht2) X (hXe▸hXm)).1;rw[hle.q,hn.hq]at this;exact this
    have hGS:=hn.grow.trans hG2;clear hR2 hs2 HAt hTb hTs
    cases hfit:fitG r (r.b p).r X with
    |none=>as_aux_lemma=>
     go_wp2_with fail;refine⟨⟨j+1,own2,S2,nd2,t2,by go_num,hs3,hG2,hd2,hW3,ht2,hlt2,?_,hR3,hRo2⟩,by simp[intOf];omega⟩;intro e x hx met hm;rw[htk]at hx;rcases List.mem_append.1 hx with hx|hx
     ·exact HD.out e x hx met hm
     ·simp at hx;subst hx;rw[hfit]at hm;cases hm
    |some met=>as_aux_lemma=>
     have e1:=hqf met hfit;subst e1;obtain⟨t9,ht9,hl9⟩:=hGS.at' g t ht;have hr9:RJ M lay N C t9.q l q (p+1):=by rw[hl9.q];exact RJ.pos hX.st hX.ro hr hpp hMX hfit
     have hqc:q.cnt=r.cnt:=by obtain⟨f,F⟩:=fit_some hr.wf hfit;rw[F.is];rfl
     have HJ:=hid (hJ w3 own2 S2 nd2 q (p+1) g t9 (by omega) hs3 ht9 hr9);rw[hl9.b]at HJ;go_wp2_with (first|(refine wpList_load_row rfl 118 (.tmp 10) rfl mb rfl 118 (cellsU q).toArray (0,0) _ hM3 underlying118 rfl infoU ?_)|(go_at_call 124;refine(HJ.out).mono ?_;rintro e w4 ⟨own4,S4,nd4,rfl,hp⟩));obtain⟨t4,ht4,hl4⟩:=hp.grow.at' i0 t2 ht2;have hRl:=hR3.lt;refine⟨⟨j+1,own4,S4,nd4,t4,by go_num,hp.sr,hG2.trans hp.grow,hd2.trans hp.sub,hW3.trans hp.went,ht4,Nat.le_trans hlt2 hl4.rows.length_le,?_,hR3.went hp.went hRo2,hp.went.none hRl hRo2⟩,by simp[intOf];omega⟩;intro e x hx met hm;have z1:=hGS.size;have z2:=hp.grow.size;have z3:sizeT S4=sizeT S2:=by omega
     rw[hp.grow.same z3 i0 t2 t4 ht2 ht4,htk]at hx;rcases List.mem_append.1 hx with hx|hx
     ·exact(HD.out (by omega) x hx met hm).mono hp.grow z3 (fun i hi=>hp.sub.subset hi)
     ·simp at hx;subst hx;rw[hfit]at hm
      injection hm with hm
      subst hm;exact hp.jd z3
  ·have hd:decide ((j:Int)<(t2.rows.length:Int))=false:=by simp;omega
   go_wp2_with (go_at_call 68;refine(HLen.out).mono ?_;rintro e w9 ⟨he,hw9⟩;subst w9;subst he)
   go_end0
   refine⟨own2,S2,nd2,rfl,⟨hs2,hn.grow.trans hG2,hn.sub.trans hd2,hW2,fun e=>?_⟩⟩;unfold JD;rw[if_pos hpp];refine⟨i0,t2,ht2,by rw[hle.q,hn.hq],?_,fun x hx met hm=>HD.out e x (by rw[show j=t2.rows.length by omega,List.take_length];exact hx) met hm⟩;rcases hn.fin with h1|h1
   ·exact .inl (hle.fin h1)
   ·exact .inr (hd2.subset h1)
theorem join_all(hcut:CutOk){M:Int->R3->Prop}{lay:Int->Nat}{N C base tb:Nat}{D:TD}(hX:SCtx M lay N C D){sb l:Nat}(hF:∀j,j<l->FinOk M lay N C base tb D j)(k:Nat):JoinOk M lay N C base tb D sb l k:=by
 induction k using Nat.strongRecOn with
 |ind k ih=>exact join_c hX hF k ih (fun j hj=>pos_c hcut hX j (ih j hj))
structure RoundPost(M:Int->R3->Prop)(lay:Int->Nat)(N C base tb:Nat)(D:TD)(sb l:Nat)(w:World)(own:OwnF)(S:List TabD)(nd:List Nat)(w':World)(own':OwnF)(S':List TabD)(nd':List Nat):Prop where
 sr:Sr M lay N C base tb D sb l w' own' S' nd'
 grow:Grow S S'
 sub:nd<+:nd'
 went:Went (Ch sb) own w own' w'
 full:sizeT S'=sizeT S->∀i∈nd',∃t,S'[i]? =some t/\(t.fin=true\/∀r∈cutG D.rules t.q,JD M S' nd' r.cnt r 0 i)
def DoneTo(M:Int->R3->Prop)(D:TD)(S':List TabD)(nd':List Nat)(i:Nat):Prop:=∃t,S'[i]? =some t/\(t.fin=true\/∀r∈cutG D.rules t.q,JD M S' nd' r.cnt r 0 i)
theorem DoneTo.mono{M:Int->R3->Prop}{D:TD}{S S':List TabD}{nd nd':List Nat}{i:Nat}(h:DoneTo M D S nd i)(hG:Grow S S')(he:sizeT S'=sizeT S)(hn:∀i∈nd,i∈nd'):DoneTo M D S' nd' i:=by
 obtain⟨t,ht,hd⟩:=h;obtain⟨u,hu,hl⟩:=hG.at' i t ht;refine⟨u,hu,?_⟩;rcases hd with hd|hd
 ·exact .inl (hl.fin hd)
 ·exact .inr (fun r hr=>(hd r (by rw[<-hl.q];exact hr)).mono hG he hn)
theorem goRound_c(hcut:CutOk){M:Int->R3->Prop}{lay:Int->Nat}{N C base tb:Nat}{D:TD}(hX:SCtx M lay N C D){sb l:Nat}(hF:∀j,j<l->FinOk M lay N C base tb D j)(w:World)(own:OwnF)(S:List TabD)(nd:List Nat)(h:Sr M lay N C base tb D sb l w own S nd):
 Calls prog 87 #[.pointer (some ⟨sb,0,none⟩)] w fun e w'=>∃(own':OwnF) (S':List TabD) (nd':List Nat),e=.returned (.tuple #[])/\RoundPost M lay N C base tb D sb l w own S nd w' own' S' nd':=by
 go_enter func87,ntmps87;go_wp2_with fail;obtain⟨B,HBB⟩:∃B:Nat,Hid (N*(C+3)*(C+3)*(C+3)=B):=⟨_,rfl⟩
 go_loopw [2] (fun iv wr=>∃(j:Nat) (own2:OwnF) (S2:List TabD) (nd2:List Nat),iv=.int .i64 (j:Nat)/\Sr M lay N C base tb D sb l wr own2 S2 nd2/\Grow S S2/\nd<+:nd2/\Went (Ch sb) own w own2 wr/\j<=nd2.length/\Hid (sizeT S2=sizeT S->∀i∈nd2.take j,DoneTo M D S2 nd2 i)) (fun iv _=>B-(intOf iv).toNat)
 case atStart=>exact⟨0,own,S,nd,rfl,h,.refl _,List.prefix_refl _,Went.refl _ _ _,Nat.zero_le _,fun _ i hi=>by simp at hi⟩
 case round=>
  obtain⟨j,own2,S2,nd2,rfl,hs2,hG2,hd2,hW2,hj,HD⟩:=hrel;obtain⟨V2,hT2⟩:=hs2.t;obtain⟨mv,lv,hse⟩:=hs2.s;have hsb:=hse.blk.lt;have htb:=hT2.blk.lt;have HLen:=hid (lenI_c wr base sb 1 mv lv nd2 (hse.blk.cell 2) hse.set);have hlq:=questions_few hs2.inv
  have hnl:nd2.length<=S2.length:=by
   have:=hs2.nn.length_le_of_subset (l₂:=List.range S2.length) (by
    intro x hx;obtain⟨u,hu,_⟩:=hs2.nd x hx
    exact List.mem_range.2 (List.getElem?_eq_some_iff.1 hu).1)
   simpa using this
  have hLq:=hX.li.q;rw[HBB.out]at hlq hLq;by_cases hlt:j<nd2.length
  ·have hd:decide ((j:Int)<(nd2.length:Int))=true:=by simp;omega
   obtain⟨t,ht,hlay⟩:=hs2.nd nd2[j] (List.getElem_mem hlt);obtain⟨i,hie⟩:∃i,nd2[j]=i:=⟨_,rfl⟩;have HAt:∀W,Below wr.heap.size wr W->Calls prog 123 #[.pointer (some ⟨sb,1,none⟩),.int .i64 j] W fun e w'=>e=.returned (.int .i64 (i:Nat))/\w'=W:=by intro W hb;have:=atI_c W base sb 1 mv lv nd2 ((hse.blk.below hb).cell 2) (hse.set.below hb) j hlt;rw[hie]at this;exact this
   rw[hie]at ht;obtain⟨gl,cap,hli,g0,hgl,g9⟩:=hT2.listAt ht;obtain⟨ru,tm,tl,hTab⟩:=hT2.tabs i t ht;have hi:i<S2.length:=(List.getElem?_eq_some_iff.1 ht).1;have d0:wr.cell? ⟨sb,0,none⟩=some (.pointer (some ⟨tb,0,none⟩)):=hse.blk.cell 0;go_upto_region 3 with(go_at_call 122;refine(HLen.out).mono ?_;rintro e w9 ⟨he,hw9⟩;subst w9;subst he)
   go_cut [3] from 6 to 45 (fun x wx=>x=.pointer (some ⟨t.b,0,none⟩)/\Below wr.heap.size wr wx)
   case first=>as_aux_lemma=>
    go_region_with (go_at_call 123;refine(HAt _ (by exact(Below.refl _ _).drew)).mono ?_;rintro e w3 ⟨rfl,hw3⟩;subst w3)
    all_goals go_wp2_with fail
    all_goals go_meet
    all_goals exact⟨rfl,(Below.refl _ _).drew⟩
   case rest=>
    obtain⟨rfl,hB3⟩:=hcut;obtain⟨w3,hw3⟩:∃x:World,x=wc:=⟨wc,rfl⟩;subst hw3;have hs3:=hs2.below hB3;have hTab3:=hTab.below hB3;have hW3:Went (Ch sb) own w own2 w3:=hW2.thenBelow hB3;have hbt:=hTab3.blk.lt;obtain⟨fb,HF⟩:∃b:Bool,Hid (b=t.fin):=⟨_,rfl⟩;have d3:w3.cell? ⟨t.b,3,none⟩=some (.bool t.fin):=hTab3.blk.cell 3;rw[<-HF.out]at d3;have htk:nd2.take (j+1)=nd2.take j++[i]:=by rw[List.take_succ_eq_append_getElem hlt,hie]
    clear HAt HLen
    cases fb with
    |true=>as_aux_lemma=>
     go_wp2_with fail;refine⟨⟨j+1,own2,S2,nd2,by go_num,hs3,hG2,hd2,hW3,hlt,?_⟩,by simp[intOf];omega⟩;intro e x hx;rw[htk]at hx;rcases List.mem_append.1 hx with hx|hx
     ·exact HD.out e x hx
     ·simp at hx;subst hx;exact⟨t,ht,.inl HF.out.symm⟩
    |false=>
     obtain⟨ro,rc,hru⟩:=own_form hTab3.rules;subst hru;have d0':w3.cell? ⟨t.b,0,none⟩=some (.slice ro (cutG D.rules t.q).length rc):=hTab3.blk.cell 0;have hcq:(cutG D.rules t.q).length<=1000:=Nat.le_trans (List.length_filterMap_le _ _) hX.nr;have hRu3:=hTab3.rules;have hOu3:=hTab3.oru;have hqt:∀y,t.q.r.Has y->y<C:=fun y hy=>(hs2.inv.terms t (List.mem_of_getElem? ht) y hy).2;have HJA:=hid (fun k=>join_all hcut hX (sb:=sb) hF k);have hRJ:=fun r (hr:r∈cutG D.rules t.q)=>RJ.cutG hX.st hX.ro (l:=l) hr hlay hqt;go_wp2_with fail
     go_loopw [37] (fun kv wx=>∃(k:Nat) (own4:OwnF) (S4:List TabD) (nd4:List Nat) (t4:TabD),kv=.int .i64 (k:Nat)/\k<=(cutG D.rules t.q).length/\Sr M lay N C base tb D sb l wx own4 S4 nd4/\Grow S2 S4/\nd2<+:nd4/\Went (Ch sb) own w own4 wx/\S4[i]? =some t4/\Hid (sizeT S4=sizeT S->∀r∈(cutG D.rules t.q).take k,JD M S4 nd4 r.cnt r 0 i)/\wx.ownsRow base 118 22 (.slice ro (cutG D.rules t.q).length rc) (cutG D.rules t.q).length ((cutG D.rules t.q).flatMap cellsU)/\Owns own4 (4,i) (.slice ro (cutG D.rules t.q).length rc)) (fun kv _=>(cutG D.rules t.q).length-(intOf kv).toNat)
     case atStart=>exact⟨0,own2,S2,nd2,t,rfl,Nat.zero_le _,hs3,.refl _,List.prefix_refl _,hW3,ht,fun _ r hr=>by simp at hr,hRu3,hOu3⟩
     case round=>as_aux_lemma=>
      obtain⟨k,own4,S4,nd4,t4,rfl,hk,hs4,hG4,hd4,hW4,ht4,HR,hRu4,hOu4⟩:=hrel
      have hle4:t.Le t4:=by
       obtain⟨y,hy,hl⟩:=hG4.at' i t ht;rw[ht4]at hy
       injection hy with hy
       subst hy;exact hl
      by_cases hkl:k<(cutG D.rules t.q).length
      ·have hd5:decide ((k:Int)<((cutG D.rules t.q).length:Int))=true:=by simp;omega
       obtain⟨gr,rfl,hgr,hxr⟩:=rule_at hRu4 k hkl;have hrm:=List.getElem_mem hkl;have htkr:=List.take_succ_eq_append_getElem hkl;generalize (cutG D.rules t.q)[k]=r at*;go_upto_region 8 with(first|(refine wpList_load_mid rfl 118 (.tmp 39) rfl gr (k*22) rfl (cellsU r) _ hxr underlying118 rfl infoU ?_)|(refine wpList_store_new rfl 118 (.tmp 5) (.tmp 40) rfl (cellsU r) rfl rfl infoU rfl (oneU r) ?_;intro w5 hR5 hbe5 hs5));have hs5':=hs4.below hbe5;have HJ:=hid (HJA.out r.cnt w5 own4 S4 nd4 r 0 i t4 (by omega) hs5' ht4 (by rw[hle4.q];exact hRJ r hrm));rw[hle4.b,show((0:Nat):Int)=0 from rfl]at HJ
       go_wp2_with (first|(refine wpList_load_row rfl 118 (.tmp 5) rfl wr.heap.size rfl 118 (cellsU r).toArray (0,0) _ hR5 underlying118 rfl infoU ?_)|(go_at_call 124;refine(HJ.out).mono ?_;rintro e w6 ⟨own6,S6,nd6,rfl,hp⟩));obtain⟨t6,ht6,hl6⟩:=hp.grow.at' i t4 ht4
       have hRu6:=own_only (own_below hRu4 hbe5) hp.went.only (fun q hq=>by
        rintro⟨o,e,c⟩;rw[hOu4 q (.inr hq)]at e
        injection e with e
        subst e
        rcases c with c|c|c<;>simp at c)
       refine⟨⟨k+1,own6,S6,nd6,t6,by go_num,hkl,hp.sr,hG4.trans hp.grow,hd4.trans hp.sub,(hW4.thenBelow hbe5).trans hp.went,ht6,?_,hRu6,hOu4.ext hp.went.ext⟩,by simp[intOf];omega⟩;intro e r' hr';have z1:=(hG2.trans hG4).size;have z2:=hp.grow.size;have z3:sizeT S6=sizeT S4:=by omega
       rw[htkr]at hr';rcases List.mem_append.1 hr' with hx|hx
       ·exact(HR.out (by omega) r' hx).mono hp.grow z3 (fun i hi=>hp.sub.subset hi)
       ·simp at hx;subst hx;exact hp.jd z3
      ·have hd5:decide ((k:Int)<((cutG D.rules t.q).length:Int))=false:=by simp;omega
       go_wp2_with fail;have hl4:=hd4.length_le;refine⟨⟨j+1,own4,S4,nd4,by go_num,hs4,hG2.trans hG4,hd2.trans hd4,hW4,by omega,?_⟩,by simp[intOf];omega⟩;intro e x hx;have z1:=hG2.size;have z2:=hG4.size;have z3:sizeT S4=sizeT S2:=by omega
       have htk4:nd4.take (j+1)=nd2.take (j+1):=by obtain⟨zs,rfl⟩:=hd4;rw[List.take_append_of_le_length hlt]
       rw[htk4,htk]at hx;rcases List.mem_append.1 hx with hx|hx
       ·exact(HD.out (by omega) x hx).mono hG4 z3 (fun i hi=>hd4.subset hi)
       ·simp at hx;subst hx;refine⟨t4,ht4,.inr (fun r hr=>HR.out e r ?_)⟩;rw[show k=(cutG D.rules t.q).length by omega,List.take_length,<-hle4.q];exact hr
  ·have hd:decide ((j:Int)<(nd2.length:Int))=false:=by simp;omega
   go_wp2_with (go_at_call 122;refine(HLen.out).mono ?_;rintro e w9 ⟨he,hw9⟩;subst w9;subst he)
   go_end0
   refine⟨own2,S2,nd2,rfl,⟨hs2,hG2,hd2,hW2,fun e i hi=>?_⟩⟩;exact HD.out e i (by rw[show j=nd2.length by omega,List.take_length];exact hi)
structure EndPost(M:Int->R3->Prop)(N C base tb:Nat)(D:TD)(w:World)(own:OwnF)(S:List TabD)(nd:List Nat)(w':World)(S':List TabD):Prop where
 tb:Tb base tb D w' own S'
 inv:Inv M N C S'
 grow:Grow S S'
 size:sizeT S'=sizeT S
 fin:∀i∈nd,∃t,S'[i]? =some t/\t.fin=true
 went:Went ChF own w own w'
theorem TIs.setFin{w:World}{own:OwnF}{base tb:Nat}{V:TV}{D:TD}{qs:List A4}{S:List TabD}{sz:Nat}(h:TIs w own base tb V D qs S sz){i:Nat}{t:TabD}(ht:S[i]? =some t):TIs (w.setCell ⟨t.b,3,none⟩ (.bool true)) own base tb V D qs (S.set i ⟨t.q,t.b,t.rows,true⟩) sz/\Only (fun q=>own q=some (2,i)) w (w.setCell ⟨t.b,3,none⟩ (.bool true)):=by
 obtain⟨ru,mv,lv,hT⟩:=h.tabs i t ht;have ho:Only (fun q=>q=t.b) w (w.setCell ⟨t.b,3,none⟩ (.bool true)):=(Only.of_below (S:=fun q=>q=t.b) (Below.refl _ _)).setCell (p:=⟨t.b,3,none⟩) (.inl rfl) _;have ho':Only (fun q=>own q=some (2,i)) w (w.setCell ⟨t.b,3,none⟩ (.bool true)):=ho.mono (fun q e=>by rw[e];exact hT.ob);refine⟨h.tab ht ho' (.refl 0 own) (h.ok.below (by simp[World.setCell])) (ru:=ru) (mv:=mv) (lv:=lv) ⟨hT.blk.setCell 3 _,own_only hT.rules ho (fun q hq e=>own_ne hT.rules hT.blk (by decide) (e▸hq)),hT.rows.only ho (fun q hq e=>own_ne hT.rows.1 hT.blk (by decide) (e▸hq)) (fun q hq e=>?_),hT.ob,hT.oru,hT.omv,hT.olv⟩ rfl,ho'⟩;rcases hT.rows.2.2 with⟨e',_⟩|⟨r,D,e',_,hw,_⟩
 ·rw[e']at hq;simp[mapBlock]at hq
 ·rw[e']at hq;simp only[mapBlock,Option.some.injEq]at hq;exact map_ne hw hT.blk (by omega)
theorem end_c{M:Int->R3->Prop}{lay:Int->Nat}{N C base tb:Nat}{D:TD}(hX:SCtx M lay N C D){sb l:Nat}(w:World)(own:OwnF)(S:List TabD)(nd:List Nat)(h:Sr M lay N C base tb D sb l w own S nd)(hfull:∀i∈nd,∃t,S[i]? =some t/\∀x,M t.q.n x->Inst t.q.r x->x∈t.rows):
 Calls prog 88 #[.pointer (some ⟨sb,0,none⟩)] w fun e w'=>∃S',e=.returned (.tuple #[])/\EndPost M N C base tb D w own S nd w' S':=by
 obtain⟨V,hT⟩:=h.t;obtain⟨mv,lv,hse⟩:=h.s;have hsb:=hse.blk.lt;have HLen:=hid (lenI_c w base sb 1 mv lv nd (hse.blk.cell 2) hse.set);go_enter func88,ntmps88;go_wp2_with (go_at_call 122;refine(HLen.out).mono ?_;rintro e w9 ⟨he,hw9⟩;subst w9;subst he);have hlq:=questions_few h.inv;have hLq:=hX.li.q
 have hnl:nd.length<=S.length:=by
  have:=h.nn.length_le_of_subset (l₂:=List.range S.length) (by
   intro x hx;obtain⟨u,hu,_⟩:=h.nd x hx
   exact List.mem_range.2 (List.getElem?_eq_some_iff.1 hu).1)
  simpa using this
 clear HLen
 go_loopw [7] (fun iv wr=>∃(j:Nat) (S2:List TabD),iv=.int .i64 (j:Nat)/\j<=nd.length/\Tb base tb D wr own S2/\SeIs wr own base tb sb nd mv lv/\Inv M N C S2/\Grow S S2/\sizeT S2=sizeT S/\(∀i∈nd.take j,∃t,S2[i]? =some t/\t.fin=true)/\Went ChF own w own wr) (fun iv _=>nd.length-(intOf iv).toNat)
 case atStart=>exact⟨0,S,rfl,Nat.zero_le _,⟨V,hT⟩,hse,h.inv,.refl _,rfl,fun i hi=>by simp at hi,Went.refl _ _ _⟩
 case round=>
  clear hsb hT hse;obtain⟨j,S2,rfl,hj,⟨V2,hT2⟩,hse2,hI2,hG2,hz2,hfin,hW2⟩:=hrel;by_cases hlt:j<nd.length
  ·have hd:decide ((j:Int)<(nd.length:Int))=true:=by simp;omega
   obtain⟨t1,ht1,hf1⟩:=hfull nd[j] (List.getElem_mem hlt);obtain⟨i,hie⟩:∃i,nd[j]=i:=⟨_,rfl⟩;have htk:nd.take (j+1)=nd.take j++[i]:=by rw[List.take_succ_eq_append_getElem hlt,hie]
   have HAt:Calls prog 123 #[.pointer (some ⟨sb,1,none⟩),.int .i64 j] wr.drew fun e w'=>e=.returned (.int .i64 (i:Nat))/\w'=wr.drew:=by have:=atI_c wr.drew base sb 1 mv lv nd (hse2.blk.drew.cell 2) (by exact hse2.set) j hlt;rw[hie]at this;exact this
   rw[hie]at ht1;obtain⟨t,ht,hle⟩:=hG2.at' i t1 ht1;have hrows:=hG2.same hz2 i t1 t ht1 ht;obtain⟨gl,cap,hli,g0,hgl,g9⟩:=hT2.listAt ht;obtain⟨ru,tm,tl,hTab⟩:=hT2.tabs i t ht;have hi:i<S2.length:=(List.getElem?_eq_some_iff.1 ht).1;have d0:wr.cell? ⟨sb,0,none⟩=some (.pointer (some ⟨tb,0,none⟩)):=hse2.blk.cell 0;have d3:wr.cell? ⟨t.b,3,none⟩=some (.bool t.fin):=hTab.blk.cell 3;have fT:=hTab.blk.frozen;have hsb:=hse2.blk.lt;have htb:=hT2.blk.lt;have hbt:=hTab.blk.lt;have hlq2:=questions_few hI2;have HAt:=hid HAt;go_wp2_with fail
   go_region_with (go_at_call 123;refine(HAt.out).mono ?_;rintro e w3 ⟨rfl,hw3⟩;subst w3)
   all_goals go_wp2_with fail
   all_goals
    obtain⟨hT3,hO3⟩:=hT2.setFin ht;have hz3:sizeT (S2.set i ⟨t.q,t.b,t.rows,true⟩)=sizeT S2:=by have:=sizeT_set (u:=⟨t.q,t.b,t.rows,true⟩) ht;simp at this;exact this
    rw[<-hz3,<-map_q_set (u:=⟨t.q,t.b,t.rows,true⟩) ht rfl]at hT3;have hGs:Grow S2 (S2.set i ⟨t.q,t.b,t.rows,true⟩):=Grow.set ht ⟨rfl,rfl,List.prefix_refl _,fun _=>rfl⟩;have hdr:=(Below.refl (wr.setCell ⟨t.b,3,none⟩ (.bool true)).heap.size (wr.setCell ⟨t.b,3,none⟩ (.bool true))).drew;refine⟨⟨j+1,S2.set i ⟨t.q,t.b,t.rows,true⟩,by go_num,hlt,⟨V2,hT3.below hdr⟩,(hse2.only hO3 (.refl 0 own) (fun q e e'=>by rw[e]at e';simp at e')).below hdr,hI2.setFin ht (fun x h1 h2=>?_),hG2.trans hGs,by omega,?_,(hW2.trans (Went.one hO3 (.inr rfl))).thenBelow hdr⟩,by simp[intOf];omega⟩
    ·rw[hrows];exact hf1 x (by rw[<-hle.q];exact h1) (by rw[<-hle.q];exact h2)
    ·intro x hx;rw[htk]at hx;rcases List.mem_append.1 hx with hx|hx
     ·obtain⟨u,hu,hfu⟩:=hfin x hx;obtain⟨u',hu',hl'⟩:=hGs.at' x u hu;exact⟨u',hu',hl'.fin hfu⟩
     ·simp at hx;subst hx;exact⟨_,by rw[List.getElem?_set_self hi],rfl⟩
  ·have hd:decide ((j:Int)<(nd.length:Int))=false:=by simp;omega
   go_wp2_with fail
   go_end0
   refine⟨S2,rfl,⟨⟨V2,hT2⟩,hI2,hG2,hz2,fun i hi=>hfin i ?_,hW2⟩⟩;rw[show j=nd.length by omega,List.take_length];exact hi
theorem newSearch{w:World}{own:OwnF}{base tb:Nat}{V:TV}{D:TD}{qs:List A4}{S:List TabD}{sz sb:Nat}(h:TIs w own base tb V D qs S sz)(hn:own sb=none)(hb:base<=sb)(hB:Blk w sb [.pointer (some ⟨tb,0,none⟩),.map none,.slice none 0 0] 182):TIs w (ownNew own (3,sb) sb) base tb V D qs S sz/\SeIs w (ownNew own (3,sb) sb) base tb sb [] (.map none) (.slice none 0 0):=by
 have he:OwnExt sb own (ownNew own (3,sb) sb):=by
  refine⟨fun q o e=>?_,fun q o e=>?_⟩
  ·unfold ownNew;rw[if_neg (fun e'=>by rw[e',hn]at e;cases e)];exact e
  ·unfold ownNew at e
   split at e
   ·exact .inr (by omega)
   ·exact .inl e
 have hl:=hB.lt
 have hk:OwnOk (ownNew own (3,sb) sb) base w:=by
  refine⟨fun q o e=>?_,h.ok.base,fun q s e=>?_⟩
  ·unfold ownNew at e
   split at e
   ·omega
   ·exact h.ok.lt q o e
  ·unfold ownNew at e
   split at e
   ·injection e with e
    injection e with _ e
    omega
   ·exact h.ok.se q s e
 exact⟨h.only (P:=fun _=>False) (Only.of_below (Below.refl _ _)) he hk (fun _ _ _ _ _ e=>e),⟨hB,SetIsI.nil _ _,ownNew_own _ _ _,Owns.nil_map _ _,Owns.nil_slice _ _⟩⟩
theorem Went.out{own own':OwnF}{base:Nat}{w w0 w':World}{sb:Nat}(hk:OwnOk own base w)(hb:Below w.heap.size w w0)(hs:w.heap.size<=sb)(h:Went (Ch sb) (ownNew own (3,sb) sb) w0 own' w'):Went ChF own w own' w':=by
 refine⟨(Only.of_below (S:=Sch own ChF) hb).trans h.only ?_,⟨fun q o e=>h.ext.keep q o ?_,fun q o e=>?_⟩⟩
 ·rintro q hq ⟨o,e,c⟩;unfold ownNew at e;rw[if_neg (by omega)]at e;refine⟨o,e,?_⟩;rcases c with c|c|c
  ·exact .inl c
  ·exact .inr c
  ·subst c;have:=hk.se q sb e;omega
 ·have:=(hk.lt q o e).2;unfold ownNew;rw[if_neg (by omega)];exact e
 ·rcases h.ext.new q o e with e'|e'
  ·unfold ownNew at e'
   split at e'
   ·exact .inr (by omega)
   ·exact .inl e'
  ·exact .inr (Nat.le_trans hb.size e')
theorem finish_c(hcut:CutOk){M:Int->R3->Prop}{lay:Int->Nat}{N C base tb:Nat}{D:TD}(hX:SCtx M lay N C D)(l:Nat)(hF:∀j,j<l->FinOk M lay N C base tb D j):FinOk M lay N C base tb D l:=by
 intro w own S a hT hI ha hl;obtain⟨V,hT⟩:=hT;have hk:=hT.ok;have hB0:Below w.heap.size w ((w.alloc (.cells #[.int .i64 a.n,.int .i64 a.r.a,.int .i64 a.r.b,.int .i64 a.r.c] 115)).alloc (.cells #[.pointer (some ⟨tb,0,none⟩),.map none,.slice none 0 0] 182)):=((Below.refl w.heap.size w).alloc (Nat.le_refl _) _).alloc (by simp) _;have hSb:Blk ((w.alloc (.cells #[.int .i64 a.n,.int .i64 a.r.a,.int .i64 a.r.b,.int .i64 a.r.c] 115)).alloc (.cells #[.pointer (some ⟨tb,0,none⟩),.map none,.slice none 0 0] 182)) (w.heap.size+1) [.pointer (some ⟨tb,0,none⟩),.map none,.slice none 0 0] 182:=by have:=Blk.new (w.alloc (.cells #[.int .i64 a.n,.int .i64 a.r.a,.int .i64 a.r.b,.int .i64 a.r.c] 115)) [.pointer (some ⟨tb,0,none⟩),.map none,.slice none 0 0] 182;simp only[World.size_alloc]at this;exact this
 have hnone:own (w.heap.size+1)=none:=by
  cases e:own (w.heap.size+1) with
  |none=>rfl
  |some o=>exact absurd (hk.lt _ o e).2 (by omega)
 obtain⟨hT0,hS0⟩:=newSearch (hT.below hB0) hnone (by have:=hk.base;omega) hSb;have h0:Sr M lay N C base tb D (w.heap.size+1) l _ (ownNew own (3,w.heap.size+1) (w.heap.size+1)) S []:=⟨⟨V,hT0⟩,⟨_,_,hS0⟩,hI,List.nodup_nil,fun i hi=>by cases hi⟩;have HN:=hid (need_c hcut hX _ _ S [] h0 a ha hl);obtain⟨w0,hw0⟩:∃w0:World,Hid (w0=((w.alloc (.cells #[.int .i64 a.n,.int .i64 a.r.a,.int .i64 a.r.b,.int .i64 a.r.c] 115)).alloc (.cells #[.pointer (some ⟨tb,0,none⟩),.map none,.slice none 0 0] 182))):=⟨_,rfl⟩;have hB0':Below w.heap.size w w0:=by rw[hw0.out];exact hB0
 have hOut:=fun(own':OwnF) (w':World)=>Went.out (own':=own') (w':=w') hk hB0' (show w.heap.size<=w.heap.size+1 by omega);obtain⟨B,HBB⟩:∃B:Nat,Hid (N*(4*C)*(4*C)*(4*C)=B):=⟨_,rfl⟩;have hLs:=hX.li.s;rw[HBB.out]at hLs;clear hT0 hS0 h0 hSb hB0;go_enter func66,ntmps66;go_wp2_with (go_at_call 86;refine(HN.out).mono ?_;rintro e w1 ⟨own1,S1,nd1,i0,t0,rfl,hn⟩);clear HN;have hw1:Went (Ch (w.heap.size+1)) (ownNew own (3,w.heap.size+1) (w.heap.size+1)) w0 own1 w1:=by rw[hw0.out];exact hn.went
 go_loopw [7] (fun sv wr=>∃(z:Int) (own2:OwnF) (S2:List TabD) (nd2:List Nat) (t2:TabD),sv=.int .i64 z/\ -1<=z/\z<=(sizeT S2:Nat)/\Sr M lay N C base tb D (w.heap.size+1) l wr own2 S2 nd2/\Grow S1 S2/\nd1<+:nd2/\Went (Ch (w.heap.size+1)) (ownNew own (3,w.heap.size+1) (w.heap.size+1)) w0 own2 wr/\S2[i0]? =some t2/\t0.Le t2/\Hid (z=(sizeT S2:Nat)->∀i∈nd2,DoneTo M D S2 nd2 i)) (fun sv _=>((B:Int)-intOf sv).toNat)
 case atStart=>exact⟨-1,own1,S1,nd1,t0,rfl,by omega,by omega,hn.sr,.refl _,List.prefix_refl _,hw1,hn.ht,.refl _,fun e=>by omega⟩
 case round=>as_aux_lemma=>
  obtain⟨z,own2,S2,nd2,t2,rfl,hz0,hz1,hs2,hG2,hd2,hW2,ht2,hle2,HD⟩:=hrel;obtain⟨V2,hT2⟩:=hs2.t;have d10:wr.cell? ⟨tb,10,none⟩=some (.int .i64 (sizeT S2:Nat)):=hT2.blk.cell 10;have htb:=hT2.blk.lt;have hsf:=size_few hs2.inv (fun n x h=>holds_small hX.st hX.ro h);rw[HBB.out]at hsf;by_cases hze:z=(sizeT S2:Nat)
  ·have hb:(z != ((sizeT S2:Nat):Int))=false:=by simp[hze]
   have hdone:=HD.out hze;have hfull:∀i∈nd2,∃t,S2[i]? =some t/\∀x,M t.q.n x->Inst t.q.r x->x∈t.rows:=by intro i hi;obtain⟨t,ht,_⟩:=hdone i hi;exact⟨t,ht,fun x h1 h2=>complete hX.st hX.ro hs2.inv hdone i t ht (.inr hi) x h1 h2⟩
   have HE:=hid (end_c hX wr own2 S2 nd2 hs2 hfull);clear HD hdone;generalize sizeT S2=y at*;subst hze;go_wp2_with (go_at_call 88;refine(HE.out).mono ?_;rintro e w3 ⟨S3,rfl,hp⟩)
   go_ret
   obtain⟨t3,ht3,hl3⟩:=hp.grow.at' i0 t2 ht2;have hl03:=hle2.trans hl3;refine⟨own2,S3,i0,t3,?_,⟨hp.tb,hp.inv,ht3,by rw[hl03.q,hn.hq],?_,(hn.grow.trans hG2).trans hp.grow,hOut _ _ (hW2.trans (hp.went.mono (ChF.ch _)))⟩⟩
   ·rw[hl03.b];rfl
   ·rcases hn.fin with h1|h1
    ·exact hl03.fin h1
    ·obtain⟨u,hu,hf⟩:=hp.fin i0 (hd2.subset h1);rw[ht3]at hu
     injection hu with hu
     rw[hu];exact hf
  ·have hb:(z != ((sizeT S2:Nat):Int))=true:=by simp[hze]
   have HR:=hid (goRound_c hcut hX hF wr own2 S2 nd2 hs2);clear HD;obtain⟨y,HY⟩:∃y:Nat,Hid (sizeT S2=y):=⟨_,rfl⟩;rw[HY.out]at d10 hze hb hz1 hsf;go_wp2_with (go_at_call 87;refine(HR.out).mono ?_;rintro e w3 ⟨own3,S3,nd3,rfl,hp⟩);obtain⟨t3,ht3,hl3⟩:=hp.grow.at' i0 t2 ht2;have hgs:=hp.grow.size;rw[HY.out]at hgs;refine⟨⟨y,own3,S3,nd3,t3,rfl,by omega,by omega,hp.sr,hG2.trans hp.grow,hd2.trans hp.sub,hW2.trans hp.went,ht3,hle2.trans hl3,fun e=>hp.full (by rw[HY.out];omega)⟩,by simp[intOf];omega⟩
theorem finish_all(hcut:CutOk){M:Int->R3->Prop}{lay:Int->Nat}{N C base tb:Nat}{D:TD}(hX:SCtx M lay N C D)(l:Nat):FinOk M lay N C base tb D l:=by
 induction l using Nat.strongRecOn with
 |ind l ih=>exact finish_c hcut hX l ih
end
end Go.Proofs.YtpbfiffgcgnidaaGreat
