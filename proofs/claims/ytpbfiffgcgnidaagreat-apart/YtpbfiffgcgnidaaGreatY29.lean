import Derived.Test.YtpbfiffgcgnidaaGreatYal
import Derived.Test.YtpbfiffgcgnidaaGreatY1
import Derived.Test.YtpbfiffgcgnidaaGreatY22
namespace Go.Proofs.YtpbfiffgcgnidaaGreat
set_option maxRecDepth 100000
set_option maxHeartbeats 4000000
set_option linter.unusedSimpArgs false
open Go.Proofs.Tryz
section
attribute [local go_sem] drewN_alloc drewN_setCell
open Go.RowKit Go.WideMaps Go.Maps
def Bld(w:World)(B b:Nat)(l:B8):Prop:=∃p v,Blk w b [p,v] 171/\(p=.pointer none\/p=.pointer (some ⟨b,0,none⟩))/\w.ownsRow B 5 1 v l.length (Lib.byteCells l)/\B<=b
def BldU(w:World)(B b:Nat)(l:B8):Prop:=∃v,Blk w b [.pointer (some ⟨b,0,none⟩),v] 171/\w.ownsRow B 5 1 v l.length (Lib.byteCells l)/\B<=b
theorem infoBuilder:(prog.info? 171).map (fun i=>i.size)=some 2:=by kernel_rfl
theorem liesBuilder:liesAt prog prog.depth 171 (2 / prog.cellsOf 171) 0 171 1=true:=by kernel_rfl
theorem copyCheck_used(b:Nat)(w:World)(h0:w.cell? ⟨b,0,none⟩=some (.pointer (some ⟨b,0,none⟩))):
 Calls prog 127 #[.pointer (some ⟨b,0,none⟩)] w fun e w'=>e=.returned (.tuple #[])/\w'=w:=by
 obtain⟨j,hj,_⟩:=Option.map_eq_some_iff.1 infoBuilder;go_enter func127,ntmps127;go_wp2;rw[Lib.run_neq_ptr_same w _ underlying168 hj];go_wp2
 go_end0
 exact⟨rfl,rfl⟩
theorem toPtr_run(b:Nat)(w:World)(hsh:w.shape? b=some (171,2)):
 (convert 168 214 (.pointer (some ⟨b,0,none⟩))).run prog w=.ok (.pointer (some ⟨b,0,none⟩)) w:=by
 obtain⟨j,hj,hjs⟩:=Option.map_eq_some_iff.1 infoBuilder;simp[convert,run_underlying underlying168,run_underlying underlying214];change Sem.run prog (underlying 168>>=_) w=_;simp[run_underlying underlying168,run_underlying underlying214,Conv.seenAt,viewAt,cellsIn,hsh,sizeOf,typeInfo,hj,hjs]
theorem ofPtr_run(b:Nat)(w:World)(hsh:w.shape? b=some (171,2)):
 (convert 214 168 (.pointer (some ⟨b,0,none⟩))).run prog w=.ok (.pointer (some ⟨b,0,none⟩)) w:=by
 obtain⟨j,hj,hjs⟩:=Option.map_eq_some_iff.1 infoBuilder;simp[convert,run_underlying underlying168,run_underlying underlying214];change Sem.run prog (underlying 214>>=_) w=_;simp[run_underlying underlying168,run_underlying underlying214,Conv.seenAt,viewAt,hsh,variablesAt,liesBuilder,sizeOf,typeInfo,hj]
theorem copyCheck_fresh(b:Nat)(w:World)(h0:w.cell? ⟨b,0,none⟩=some (.pointer none))(hsh:w.shape? b=some (171,2))(hfz:w.frozen? ⟨b,0,none⟩=false):
 Calls prog 127 #[.pointer (some ⟨b,0,none⟩)] w fun e w'=>e=.returned (.tuple #[])/\w'=w.setCell ⟨b,0,none⟩ (.pointer (some ⟨b,0,none⟩)):=by
 go_enter func127,ntmps127;go_wp2;rw[toPtr_run b w hsh];simp only[Result.andThen];rw[Oper.upon_value];go_wp2;rw[run_callFunc_extern func150 (by kernel_rfl) (by kernel_rfl) (by kernel_rfl) (e:=Extern.AbiNoEscape.same) (by kernel_rfl)];rw[Lib.run_noEscape];simp only[Result.andThen];rw[Oper.upon_value];go_wp2;rw[ofPtr_run b w hsh];simp only[Result.andThen];rw[Oper.upon_value];go_wp2
 go_end0
 exact⟨rfl,rfl⟩
theorem copyCheck_c(w:World)(B b:Nat)(l:B8)(h:Bld w B b l)(hB:B<=w.heap.size):
 Calls prog 127 #[.pointer (some ⟨b,0,none⟩)] w fun e w'=>e=.returned (.tuple #[])/\BldU w' B b l/\KeptX B b [5] w w':=by
 obtain⟨p,v,hb,hp,ho,hBb⟩:=h;rcases hp with rfl|rfl
 ·refine(copyCheck_fresh b w (hb.cell 0) (by unfold Blk at hb;simp[World.shape?,hb]) (hb.frozen 0)).mono ?_;rintro e w' ⟨rfl,rfl⟩;exact⟨rfl,⟨v,hb.setCell 0 _,own_set ho ⟨b,0,none⟩ _ (own_ne ho hb (by decide)),hBb⟩,KeptX.kept (Kept.setCell (b:=b) w (p:=⟨b,0,none⟩) rfl _) hB⟩
 ·refine(copyCheck_used b w (hb.cell 0)).mono ?_;rintro e w' ⟨rfl,rfl⟩;exact⟨rfl,⟨v,hb,ho,hBb⟩,KeptX.refl _ _ _ _⟩
theorem infoByte:(prog.info? 5).map (fun i=>(i.zero,i.size,i.bytes))=some (some (.int .u8 0),1,1):=by kernel_rfl
theorem byteCells_snoc(l:B8)(c:UInt8):Lib.byteCells (l++[c])=Lib.byteCells l++[.int .u8 (c.toNat:Int)]:=by simp[Lib.byteCells]
theorem writeByte_c(w:World)(B b:Nat)(l:B8)(c:UInt8)(x:Int)(hx:x=(c.toNat:Int))(h:Bld w B b l)(hB:B<=w.heap.size)(hl:l.length<=1000000):
 Calls prog 99 #[.pointer (some ⟨b,0,none⟩),.int .u8 x] w fun e w'=>e=.returned .nilIface/\Bld w' B b (l++[c])/\KeptX B b [5] w w':=by
 have HX:=hid hx;clear hx;obtain⟨i0,hi,hz0,hz1,hz2⟩:=info_parts infoByte;go_enter func99,ntmps99;go_wp2_with (first|(go_at_call 127;refine(copyCheck_c _ B b l h hB).mono ?_;rintro e w1 ⟨rfl,hU1,hX1⟩;obtain⟨v,hb1,ho1,hBb⟩:=hU1;obtain⟨ao,cap,rfl⟩:=own_form ho1;have c1:=hb1.cell 1;simp at c1;have hs1:=hX1.size)|(at_builtin;refine wpList_append_ownS _ rfl _ _ 169 rfl B 5 i0 _ 1 1 underlying169 hi hz0 hz1 hz2 rfl (by decide) _ l.length (Lib.byteCells l) rfl (ho1.alloc _) ⟨w1.heap.size,0,none⟩ 1 [.int .u8 x] rfl rfl (new_cells _ _ _) (by intro u hu;simp at hu;subst hu;rfl) (by unfold maxLen;omega) (by omega) (by simp;omega) ?_;intro g cap2 w2 ho2 hg2;have hb2:=(hb1.alloc _).grown hg2 (own_ne ho1 hb1 (by decide));have d1:=hb2.cell 1;have f2:=hb2.frozen;simp at d1))
 go_ret
 refine⟨rfl,⟨_,_,hb2.setCell 1 _,.inr rfl,?_,hBb⟩,?_⟩
 ·rw[byteCells_snoc,<-HX.out,List.length_append];exact own_set ho2 ⟨b,1,none⟩ _ (own_ne ho2 hb2 (by decide))
 ·have hX2:KeptX B b [5] w w2:=(hX1.trans (KeptX.alloc _ _ (by omega))).trans (KeptX.grown hg2 (ho1.alloc _) (Nat.le_refl _) (by simp;omega) (by simp));exact hX2.trans (KeptX.kept (Kept.setCell (b:=b) w2 (p:=⟨b,1,none⟩) rfl _) (by have:=hX2.size;omega))
theorem writeString_c(w:World)(B b:Nat)(l:B8)(s:B8)(h:Bld w B b l)(hB:B<=w.heap.size)(hl:l.length<=1000000)(hs:s.length<=1000000):
 Calls prog 98 #[.pointer (some ⟨b,0,none⟩),.string (bs s)] w fun e w'=>e=.returned (.tuple #[.int .i64 s.length,.nilIface])/\Bld w' B b (l++s)/\KeptX B b [5] w w':=by
 obtain⟨i0,hi,hz0,hz1,hz2⟩:=info_parts infoByte;have hsz:=bs_size s;go_enter func98,ntmps98;go_wp2_with (first|(go_at_call 127;refine(copyCheck_c _ B b l h hB).mono ?_;rintro e w1 ⟨rfl,hU1,hX1⟩;obtain⟨v,hb1,ho1,hBb⟩:=hU1;obtain⟨ao,cap,rfl⟩:=own_form ho1;have c1:=hb1.cell 1;simp at c1;have hs1:=hX1.size)|(at_builtin;refine Lib.wpList_append_own_string _ rfl _ _ 169 9 rfl B 5 i0 underlying169 underlying9 hi hz0 hz1 hz2 _ _ _ rfl ho1 (bs s) rfl (by rw[hsz];unfold maxLen;omega) (by rw[hsz];omega) (by omega) ?_;intro v2 w2 ho2 hg2 hn2;obtain⟨ao2,cap2,rfl⟩:=own_form ho2;have hb2:=hb1.grown hg2 (own_ne ho1 hb1 (by decide));have d1:=hb2.cell 1;have f2:=hb2.frozen;simp at d1));go_ret2;rw[hsz]at ho2;refine⟨rfl,⟨_,_,hb2.setCell 1 _,.inr rfl,?_,hBb⟩,?_⟩
 ·rw[Lib.byteCells_append,List.length_append];exact own_set ho2 ⟨b,1,none⟩ _ (own_ne ho2 hb2 (by decide))
 ·have hX2:KeptX B b [5] w w2:=hX1.trans (KeptX.grown hg2 ho1 (Nat.le_refl _) (by omega) (by simp));exact hX2.trans (KeptX.kept (Kept.setCell (b:=b) w2 (p:=⟨b,1,none⟩) rfl _) (by have:=hX2.size;omega))
def showA(n:B8)(ts:List B8):B8:=if ts.length=0 then n else n++[40]++Lib.join ts [44]++[41]
theorem bs_data(l:B8):(bs l).data.toList=l:=by simp[bs]
theorem Bld.alloc{w:World}{B b:Nat}{l:B8}(h:Bld w B b l)(o:Obj):Bld (w.alloc o) B b l:=by obtain⟨p,v,h1,h2,h3,h4⟩:=h;exact⟨p,v,h1.alloc o,h2,h3.alloc o,h4⟩
theorem Bld.below{w w':World}{B b:Nat}{l:B8}(h:Bld w B b l)(hb:Below w.heap.size w w'):Bld w' B b l:=by obtain⟨p,v,h1,h2,h3,h4⟩:=h;exact⟨p,v,h1.below hb,h2,own_below h3 hb,h4⟩
theorem KeptX.below{base sb:Nat}{T:List TypeId}{w w':World}(h:Below w.heap.size w w')(hb:base<=w.heap.size):KeptX base sb T w w':=
 ⟨h.os,h.tape,h.output,h.size,fun k hk _=>h.block k (by omega),fun _ _ _ _ _ h3=>h3.below h⟩
theorem Bld.lt{w:World}{B b:Nat}{l:B8}(h:Bld w B b l):b<w.heap.size:=by obtain⟨p,v,h1,_⟩:=h;exact h1.lt
theorem tail_len(ts:List B8)(h:∀t∈ts,t.length<=12):(Lib.joinTail [44] ts).length<=13*ts.length:=by
 induction ts with
 |nil=>simp[Lib.joinTail]
 |cons t r ih=>have h1:=h t (by simp);have h2:=ih (fun x hx=>h x (by simp[hx]));simp only[Lib.joinTail,List.map_cons,List.flatten_cons,List.length_append,List.length_cons,List.length_nil]at h2⊢;omega
theorem join_len(ts:List B8)(h:∀t∈ts,t.length<=12):(Lib.join ts [44]).length<=13*ts.length:=by
 cases ts with
 |nil=>simp[Lib.join_nil]
 |cons t r=>rw[Lib.join_cons];have h1:=h t (by simp);have h2:=tail_len r (fun x hx=>h x (by simp[hx]));simp only[List.length_append,List.length_cons];omega
theorem joinTerms_c(w:World)(R:Nat)(ts:List B8)(hR:R<w.heap.size)(h3:ts.length<=3)(ht:∀t∈ts,t.length<=12)(hc:∀(j:Nat) x,(ts.map bs)[j]? =some x->w.cell? ⟨R,2+j,none⟩=some (.string x)):
 Calls prog 100 #[.slice (some ⟨R,2,none⟩) ts.length 3,.string ⟨#[44]⟩] w fun e w'=>e=.returned (.string (bs (Lib.join ts [44])))/\Below w.heap.size w w':=by
 have hjl:=join_len ts ht;have e1:(ts.map bs).map (fun x:ByteArray=>x.data.toList)=ts:=by rw[List.map_map,show((fun x:ByteArray=>x.data.toList) ∘ bs)=id from funext bs_data,List.map_id]
 have e2:(⟨#[44]⟩:ByteArray).data.toList=[44]:=rfl;have hjn:=Tryz.strings_Join R 2 3 (ts.map bs) ⟨#[44]⟩ w hc hR (by simp;omega) (by simpa using h3) (by rw[e1,e2];omega);rw[List.length_map,e1,e2]at hjn;exact hjn
theorem printAtom_c(w:World)(B b:Nat)(l:B8)(n:B8)(ts:List B8)(h:Bld w B b l)(hB:B<=w.heap.size)(hl:l.length<=900000)(hn:n.length<=12)(h3:ts.length<=3)(ht:∀t∈ts,t.length<=12):
 Calls prog 80 #[.pointer (some ⟨b,0,none⟩),.agg #[.string (bs n),.int .i64 (ts.length:Nat),.string (bs (ts.getD 0 [])),.string (bs (ts.getD 1 [])),.string (bs (ts.getD 2 []))]] w fun e w'=>e=.returned (.tuple #[])/\Bld w' B b (l++showA n ts)/\KeptX B b [5] w w':=by
 have hblt:=h.lt;have hjl:=join_len ts ht;obtain⟨y0,Y0⟩:∃y0,Hid (y0=bs (ts.getD 0 [])):=⟨_,rfl⟩;obtain⟨y1,Y1⟩:∃y1,Hid (y1=bs (ts.getD 1 [])):=⟨_,rfl⟩;obtain⟨y2,Y2⟩:∃y2,Hid (y2=bs (ts.getD 2 [])):=⟨_,rfl⟩;rw[<-Y0.out,<-Y1.out,<-Y2.out];have hbx0:=Blk.new w [Value.string (bs n),.int .i64 (ts.length:Nat),.string y0,.string y1,.string y2] 54;have hX0:KeptX B b [5] w (w.alloc (.cells #[Value.string (bs n),.int .i64 (ts.length:Nat),.string y0,.string y1,.string y2] 54)):=KeptX.alloc _ _ hB;by_cases h0:ts.length=0
 ·have hq:((ts.length:Int)==0)=true:=by rw[beq_iff_eq];omega
  have HS:=hid (show showA n ts=n by simp[showA,h0]);clear h0;go_enter func80,ntmps80;go_wp2_with (go_at_call 98;refine(writeString_c _ B b l n (by exact h.alloc _) (by simp;omega) (by omega) (by omega)).mono ?_;rintro e w1 ⟨rfl,hb1,hX1⟩;have hbx1:=hX1.ty _ _ _ (by omega) (by decide) hbx0;obtain⟨c0,c1,c2,c3,c4⟩:=hbx1.c5);rw[HS.out];exact bodyPost_ret (v:=.tuple #[]) (by simp[results,results80,go_sem]) rfl ⟨rfl,hb1,hX0.trans hX1⟩
 ·have hq:((ts.length:Int)==0)=false:=by rw[beq_eq_false_iff_ne];omega
  have HS:=hid (show showA n ts=n++[40]++Lib.join ts [44]++[41] by simp[showA,h0]);clear h0;have hsl:=fun W:World=>sliceN ts.length h3 w.heap.size 2 W
  have hcells:∀W:World,Blk W w.heap.size [.string (bs n),.int .i64 (ts.length:Nat),.string y0,.string y1,.string y2] 54->∀(j:Nat) x,(ts.map bs)[j]? =some x->W.cell? ⟨w.heap.size,2+j,none⟩=some (.string x):=by
   intro W hW j x hx;have hj:j<ts.length:=by have:=(List.getElem?_eq_some_iff.1 hx).1;simpa using this
   have hx':x=bs ts[j]:=by simp[hj]at hx;exact hx.symm
   rw[hW.cell,Y0.out,Y1.out,Y2.out,hx'];have h:j=0\/j=1\/j=2:=by omega
   rcases h with rfl|rfl|rfl<;>simp[hj]
  go_enter func80,ntmps80;go_wp2_with fail;refine(writeString_c _ B b l n (by exact h.alloc _) (by simp;omega) (by omega) (by omega)).mono ?_;rintro e w1 ⟨rfl,hb1,hX1⟩;have hbx1:=hX1.ty _ _ _ (by omega) (by decide) hbx0;obtain⟨c0,c1,c2,c3,c4⟩:=hbx1.c5;have hs1:B<=w1.heap.size:=by have:=hX1.size;simp at this;omega
  go_wp2_with fail;refine(writeByte_c _ B b (l++n) 40 _ rfl hb1 hs1 (by simp;omega)).mono ?_;rintro e w2 ⟨rfl,hb2,hX2⟩;have hbx2:=hX2.ty _ _ _ (by omega) (by decide) hbx1;clear c0 c1 c2 c3 c4;obtain⟨c0,c1,c2,c3,c4⟩:=hbx2.c5;have hs2:B<=w2.heap.size:=by have:=hX2.size;omega
  go_wp2_with fail;refine(joinTerms_c w2 w.heap.size ts hbx2.lt h3 ht (hcells w2 hbx2)).mono ?_;rintro e w3 ⟨rfl,hB3⟩;have hb3:=hb2.below hB3;have hX3:KeptX B b [5] w2 w3:=KeptX.below hB3 hs2;have hs3:B<=w3.heap.size:=by have:=hB3.size;omega
  clear c0 c1 c2 c3 c4;go_wp2_with fail;refine(writeString_c _ B b (l++n++[40]) (Lib.join ts [44]) hb3 hs3 (by simp;omega) (by omega)).mono ?_;rintro e w4 ⟨rfl,hb4,hX4⟩;have hs4:B<=w4.heap.size:=by have:=hX4.size;omega
  go_wp2_with fail;refine(writeByte_c _ B b (l++n++[40]++Lib.join ts [44]) 41 _ rfl hb4 hs4 (by simp;omega)).mono ?_;rintro e w5 ⟨rfl,hb5,hX5⟩;go_wp2_with fail
  go_end0
  rw[HS.out];exact⟨rfl,by simpa using hb5,(((hX0.trans hX1).trans hX2).trans hX3).trans (hX4.trans hX5)⟩
theorem Bld.lib{w:World}{B b:Nat}{l:B8}(h:Bld w B b l):Lib.IsBuilderF 171 5 B b (Lib.byteCells l) w:=by
 obtain⟨p,v,h1,h2,h3,h4⟩:=h
 have hA:∀p,Blk w b [p,v] 171->Lib.BuilderAtF 171 5 B b p (Lib.byteCells l) w:=fun p hp=>
  Lib.BuilderAtF.of ⟨h4,v,hp,by rw[Lib.byteCells_length];exact h3,own_ne h3 hp (by decide)⟩
 rcases h2 with rfl|rfl
 ·exact .inl (hA _ h1)
 ·exact .inr (hA _ h1)
end
end Go.Proofs.YtpbfiffgcgnidaaGreat
