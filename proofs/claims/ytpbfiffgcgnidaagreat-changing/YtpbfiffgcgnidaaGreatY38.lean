import Derived.Test.YtpbfiffgcgnidaaGreatYal
import Derived.Test.YtpbfiffgcgnidaaGreatY2
import Derived.Test.YtpbfiffgcgnidaaGreatY12
import Derived.Test.YtpbfiffgcgnidaaGreatY29
namespace Go.Proofs.YtpbfiffgcgnidaaGreat
set_option maxRecDepth 100000
set_option maxHeartbeats 4000000
set_option linter.unusedSimpArgs false
open Go.Proofs.Tryz
section
attribute [local go_sem] drewN_alloc drewN_setCell
open Go.RowKit Go.WideMaps Go.Maps Go.Sort
theorem printOne_c(w:World)(n:B8)(ts:List B8)(hn:n.length<=12)(h3:ts.length<=3)(ht:∀t∈ts,t.length<=12):
 Calls prog 62 #[.agg #[.string (bs n),.int .i64 (ts.length:Nat),.string (bs (ts.getD 0 [])),.string (bs (ts.getD 1 [])),.string (bs (ts.getD 2 []))]] w fun e w'=>e=.returned (.string (bs (showA n ts)))/\Below w.heap.size w w':=by
 have HP:Hid (∀(W:World) (B b:Nat),Bld W B b []->B<=W.heap.size->Calls prog 80 #[.pointer (some ⟨b,0,none⟩),.agg #[.string (bs n),.int .i64 (ts.length:Nat),.string (bs (ts.getD 0 [])),.string (bs (ts.getD 1 [])),.string (bs (ts.getD 2 []))]] W fun e w'=>e=.returned (.tuple #[])/\Bld w' B b ([]++showA n ts)/\KeptX B b [5] W w'):=fun W B b h hB=>printAtom_c W B b [] n ts h hB (by simp) hn h3 ht;obtain⟨y0,Y0⟩:∃y0,Hid (y0=bs (ts.getD 0 [])):=⟨_,rfl⟩;obtain⟨y1,Y1⟩:∃y1,Hid (y1=bs (ts.getD 1 [])):=⟨_,rfl⟩;obtain⟨y2,Y2⟩:∃y2,Hid (y2=bs (ts.getD 2 [])):=⟨_,rfl⟩;rw[<-Y0.out,<-Y1.out,<-Y2.out]at HP⊢;rw[List.nil_append]at HP;go_enter func62,ntmps62;have hN:=new_two w (.cells #[.string (bs n),.int .i64 (ts.length:Nat),.string y0,.string y1,.string y2] 54) [.pointer none,.slice none 0 0] 171;have hb0:Bld ((w.alloc (.cells #[.string (bs n),.int .i64 (ts.length:Nat),.string y0,.string y1,.string y2] 54)).alloc (.cells #[.pointer none,.slice none 0 0] 171)) (w.heap.size+1) (w.heap.size+1) []:=⟨_,_,hN,.inl rfl,World.ownsRow_nil _ _ _ _,Nat.le_refl _⟩;have hB0:Below w.heap.size w ((w.alloc (.cells #[.string (bs n),.int .i64 (ts.length:Nat),.string y0,.string y1,.string y2] 54)).alloc (.cells #[.pointer none,.slice none 0 0] 171)):=(below_alloc w _).alloc (by simp) _;go_wp2_with (first|(go_at_call 80;refine(HP.out _ (w.heap.size+1) (w.heap.size+1) hb0 (by simp)).mono ?_;rintro e w1 ⟨rfl,hb1,hX1⟩;have hs1:=hb1.lt)|(go_at_call 81;refine(Tryz.Builder_String_any_k (w.heap.size+1) (w.heap.size+1) _ _ hb1.lib (by omega)).mono ?_;rintro e w2 ⟨rfl,hb2,hB2,-⟩))
 go_ret
 exact⟨rfl,(hB0.trans ((hX1.toBelow (Nat.le_refl _)).mono (by omega))).trans (hB2.mono (by omega))⟩
def shownA(a:B8×List B8):B8:=showA a.1 a.2
theorem printSorted_c(w:World)(base:Nat)(ao:Option Addr)(cap:Nat)(ats:List (B8×List B8))(hA:w.ownsRow base 54 5 (.slice ao ats.length cap) ats.length (ats.flatMap atomC))(hw:∀a∈ats,a.1.length<=12/\a.2.length<=3/\∀t∈a.2,t.length<=12)(hn:ats.length<=100000000000):
 Calls prog 43 #[.slice ao ats.length cap] w fun e w'=>∃v,e=.returned v/\w'.ownsRow w.heap.size 9 1 v ats.length (((ats.map shownA).mergeSort fun x y=>decide (x<=y)).map fun z=>.string (bs z))/\Below w.heap.size w w':=by
 go_enter func43,ntmps43;go_wp2_with fail;obtain⟨i1,hi1,hy0,hy1,hy2⟩:=info_parts infoStr
 go_loopw [3,8] (fun pv iv wr=>∃(k:Nat),k<=ats.length/\iv=.int .i64 (k:Nat)/\wr.ownsRow w.heap.size 9 1 pv k ((ats.take k).map fun a=>.string (bs (shownA a)))/\Below w.heap.size w wr) (fun _ iv _=>ats.length-(intOf iv).toNat)
 case atStart=>exact⟨0,by omega,rfl,World.ownsRow_nil _ _ _ _,Below.refl _ _⟩
 case round=>
  obtain⟨k,hk,rfl,hR,hB⟩:=hrel;have hbw:=hB.size;by_cases hlt:k<ats.length
  ·obtain⟨g,hao⟩:∃g,ao=some ⟨g,0,none⟩:=by
    rcases hA.2 with⟨_,h0⟩|⟨g,cp,cur,he,_⟩
    ·omega
    ·injection he with he1 _ _
     exact⟨g,he1⟩
   subst hao;obtain⟨a0,a1,a2,a3,a4⟩:=atom_at (own_below hA hB) rfl k hlt;have hwd:=hw ats[k] (List.getElem_mem hlt);have htk:=List.take_succ_eq_append_getElem hlt;obtain⟨a,ha⟩:∃a,ats[k]=a:=⟨_,rfl⟩;simp only[ha]at a0 a1 a2 a3 a4 hwd htk;clear ha;have HT:Hid ((ats.take (k+1)).map (fun a=>Value.string (bs (shownA a)))=(ats.take k).map (fun a=>Value.string (bs (shownA a)))++[.string (bs (shownA a))]):=by show _=_;rw[htk];simp
   clear htk;obtain⟨po,pc,rfl⟩:=own_form hR;obtain⟨nm,ts⟩:=a;have a0':wr.cell? ⟨g,k*5,none⟩=some (.string (bs nm)):=a0;have a1':wr.cell? ⟨g,k*5+1,none⟩=some (.int .i64 (ts.length:Nat)):=a1;clear a0 a1;have HP:Hid (∀W:World,Calls prog 62 #[.agg #[.string (bs nm),.int .i64 (ts.length:Nat),.string (atT (nm,ts) 0),.string (atT (nm,ts) 1),.string (atT (nm,ts) 2)]] W fun e w'=>e=.returned (.string (bs (shownA (nm,ts))))/\Below W.heap.size W w'):=fun W=>printOne_c W nm ts hwd.1 hwd.2.1 hwd.2.2;obtain⟨z,hz⟩:∃z,bs (shownA (nm,ts))=z:=⟨_,rfl⟩;rw[hz]at HP HT;clear hz;go_wp2_with (first|(go_at_call 62;refine(HP.out _).mono ?_;rintro e w1 ⟨rfl,hB1⟩;have hB1r:Below wr.heap.size wr w1:=(below_alloc wr _).trans (hB1.mono (by simp));have hs1:=hB1r.size;have hR1:=own_below hR hB1r)|(at_builtin;refine wpList_append_ownS _ rfl _ _ 31 rfl w.heap.size 9 i1 _ 1 16 underlying31 hi1 hy0 hy1 hy2 rfl (by decide) _ k _ rfl (hR1.alloc _) ⟨w1.heap.size,0,none⟩ 1 [.string z] rfl rfl (new_cells w1 [.string z] 9) (by intro u hu;simp at hu;subst hu;rfl) (by unfold maxLen;omega) (by omega) (by simp;omega) ?_;intro g3 cap3 w3 ho3 hg3));rw[<-HT.out]at ho3;have hB3:Below w.heap.size w w3:=(((Only.of_below (S:=fun _=>False) (hB.trans (hB1r.mono hbw))).alloc _).grown hg3 (fun q hq=>.inr (hR.lt q hq).1)).below (Nat.le_refl _) (fun _ h=>h.elim);exact⟨⟨k+1,hlt,by go_num,ho3,hB3⟩,by simp[intOf];omega⟩
  ·have hke:k=ats.length:=by omega
   rw[hke,List.take_length]at hR;clear hke;rcases hR.2 with⟨hp,h0⟩|⟨g,cp,cur,hp,hbase,hblk,h1,h2,h3,h4⟩
   ·subst hp;have hnil:=List.eq_nil_of_length_eq_zero h0;go_wp2_with (go_at_call 63;refine(Tryz.slices_Sort_none none 0 _).mono ?_;rintro e w2 ⟨rfl,rfl⟩)
    go_ret
    refine⟨_,rfl,?_,hB⟩;subst hnil;simp only[List.map_nil,List.mergeSort_nil,List.length_nil];exact World.ownsRow_nil _ _ _ _
   ·subst hp;obtain⟨zs,hzs⟩:∃zs,ats.map shownA=zs:=⟨_,rfl⟩;have hzl:zs.length=ats.length:=by rw[<-hzs];simp
    have ht:cur.toList.take zs.length=zs.map encStr:=by rw[hzl,<-hzs,List.map_map];have h5:=h4;rw[Nat.mul_one]at h5;exact h5
    have hH:=holds_of_block hblk ht;have hS:=Tryz.slices_Sort g 0 cp zs wr hH (by have:=hR.lt g rfl;omega) (by omega);rw[hzl]at hS;have HS:=hid hS;clear hS;go_wp2_with (go_at_call 63;refine(HS.out).mono ?_;rintro e w2 ⟨rfl,n,os,hw2⟩)
    go_ret
    have hml':(zs.mergeSort fun x y=>decide (x<=y)).length=zs.length:=List.length_mergeSort _;have hg:=grownBy_sorted (w:=wr) (g:=g) (n:=n) (os:=os) (zs.mergeSort fun x y=>decide (x<=y)).toArray;have hrow:=ownsRow_sorted (n:=n) (os:=os) (ss:=zs) hml' hbase hblk (by omega) h2 h3;rw[hzl]at hrow;refine⟨_,rfl,?_,((Only.of_below (S:=fun _=>False) hB).grown hg (fun q hq=>.inr (by have:=Option.some.inj hq;omega))).below (Nat.le_refl _) (fun _ h=>h.elim)⟩;rw[hzs];exact hrow
end
end Go.Proofs.YtpbfiffgcgnidaaGreat
