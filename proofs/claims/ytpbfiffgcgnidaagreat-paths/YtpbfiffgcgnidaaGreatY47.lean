import Derived.Test.YtpbfiffgcgnidaaGreatYal
import Derived.ProofKit
import Derived.OpenShut
import Derived.Test.YtpbfiffgcgnidaaGreatY16
import Derived.Test.YtpbfiffgcgnidaaGreatY43
import Derived.Test.YtpbfiffgcgnidaaGreatY44
import Derived.Test.YtpbfiffgcgnidaaGreatY45
import Derived.Test.YtpbfiffgcgnidaaGreatY46
namespace Go.Proofs.YtpbfiffgcgnidaaGreat
set_option maxRecDepth 100000
set_option maxHeartbeats 4000000
set_option linter.unusedSectionVars false
set_option linter.unusedSimpArgs false
open Go.Proofs.Tryz
section
open Go.RowKit
def Gp(s:B8)(n:B8)(ts:List B8):Bool:=
 (Ar s0 s).ok&&((Ao (Ar s0 s).rest).isEmpty&&(decide ((Ar s0 s).name=n)&&decide ((Ar s0 s).ts=ts)))
theorem NF{s n:B8}{ts:List B8}(h:Gp s n ts=true):(Bh (bs s)).ok=true/\(Ao (Bh (bs s)).rest).isEmpty=true/\(Bh (bs s)).name=n/\(Bh (bs s)).ts=ts:=by unfold Gp at h;simp only[Bool.and_eq_true,decide_eq_true_eq]at h;unfold Bh;rw[IB,GU _ s0,EY _ s0,EZ _ s0,GS _ s0];exact⟨h.1,h.2.1,h.2.2.1,h.2.2.2⟩
def DL(c:Nu):List (B8×Nat):=(Ev c).map fun a=>(a.1,a.2.length)
theorem Kv(D:List Ap):Bi D=CI ([],[]) ((D.map Ap.cor).flatMap DL):=by unfold Bi;rw[List.flatMap_map];rfl
def Gz(st:List B8×List Nat)(k:B8)(n:Nat):Bool:=Ca st.1 k&&decide (MA st.2 (BM st.1 k)=(n:Int))
theorem LG:∀ps:List (Nat×Nat),CI ([AH],[2]) ((ps.map fun p=>(BC p).cor).flatMap DL)=([AH],[2]):=by
 intro ps
 induction ps with
 |nil=>rfl
 |cons p ps ih=>exact ih
theorem Jc{q:List Bool}{v:Nat}{D:List Ap}(h:BL q v D)(k:B8)(n:Nat)(h1:Gz (CI ([],[]) ((Dc v).flatMap DL)) k n=true)(h2:Gz (CI ([AH],[2]) ((Dc v).flatMap DL)) k n=true):Gz (Bi D) k n=true:=by
 rw[Kv,h,List.flatMap_append]
 cases hp:BJ q with
 |nil=>exact h1
 |cons p ps=>
  have e:CI ([],[]) (((p::ps).map fun p=>(BC p).cor).flatMap DL++(Dc v).flatMap DL)=CI (CI ([AH],[2]) ((ps.map fun p=>(BC p).cor).flatMap DL)) ((Dc v).flatMap DL):=by unfold CI;rw[List.foldl_append];rfl
  rw[e,LG];exact h2
theorem Kg{q:List Bool}{v:Nat}(hv:v<4){D:List Ap}(h:BL q v D)(k:B8)(hk:k=AH\/k=As\/k=Cv\/k=DT\/k=FO\/k=FP):Gz (Bi D) k (LU k)=true:=by
 have h1:∀v,v<4->∀k∈[AH,As,Cv,DT,FO,FP],Gz (CI ([],[]) ((Dc v).flatMap DL)) k (LU k)=true:=by decide+kernel
 have h2:∀v,v<4->∀k∈[AH,As,Cv,DT,FO,FP],Gz (CI ([AH],[2]) ((Dc v).flatMap DL)) k (LU k)=true:=by decide+kernel
 have hm:k∈[AH,As,Cv,DT,FO,FP]:=by simpa using hk
 exact Jc h k _ (h1 v hv k hm) (h2 v hv k hm)
theorem Pf(w:World)(base bb:Nat)(D:List Ap)(hI:CW w base bb D)(hW:∀d∈D,d.WF)(hn:D.length<=40){q:List Bool}{v:Nat}(hv:v<4)(hG:BL q v D)(s an:B8)(ats:List B8)(hs:s.length<=2000)(hr:Gp s an ats=true)(hk:an=AH\/an=As\/an=Cv\/an=DT\/an=FO\/an=FP)(har:ats.length=LU an):
 ∃s0 s1 s2 s3 s4:Int,Hid (∀W:World,Below w.heap.size w W->Calls prog 37 #[.pointer (some ⟨bb,0,none⟩),.string (bs s)] W fun e w'=>e=.returned (.tuple #[.agg #[.string (bs an),.int .i64 (ats.length:Nat),.string (bs (Ab ats 0)),.string (bs (Ab ats 1)),.string (bs (Ab ats 2))],.agg #[.int .i64 s0,.int .i64 s1,.int .i64 s2,.int .i64 s3,.int .i64 s4],.int .i64 0,.int .i64 0])/\Below W.heap.size W w'):=by
 obtain⟨hok,hend,hnm,hts⟩:=NF hr;have hkn:=Kg hv hG an hk;unfold Gz at hkn;rw[Bool.and_eq_true,decide_eq_true_eq]at hkn;refine⟨((0:Nat):Int),((Bh (bs s)).np:Nat),((Bh (bs s)).ps.getD 0 0:Nat),((Bh (bs s)).ps.getD 1 0:Nat),((Bh (bs s)).ps.getD 2 0:Nat),?_⟩;intro W hB
 have:=I0 W base bb D (by obtain⟨u,h1,h2⟩:=hI;exact⟨u,h1.below hB,h2.below hB⟩) hW hn (bs s) hs hok hend (by rw[hnm];exact hkn.1) (by rw[hnm,hts,har];exact hkn.2) (by
  rw[hnm]
  rcases hk with rfl|rfl|rfl|rfl|rfl|rfl<;>decide)
 rw[hnm,hts]at this;exact this
end
section
open Go.RowKit
variable [DecidableEq R3] [DecidableEq A4]
def L0(base bb:Nat)(D:List Ap)(s:B8)(L:List B8):Prop:=
 ∀(U:World) (b2:Nat) (a2:Option Addr) (c2:Nat),CW U base bb D->U.ownsRow b2 9 1 (.slice a2 L.length c2) L.length (CM L)->
  Calls prog 15 #[.pointer (some ⟨bb,0,none⟩),.string (bs s),.slice a2 L.length c2] U fun e w'=>e=.returned (.bool true)/\Below U.heap.size U w'
section
variable {base bb:Nat} {D:List Ap} (hW:∀d∈D,d.WF) (hn:D.length<=40) {q:List Bool} {v:Nat} (hv:v<4) (hG:BL q v D)
theorem E9(hW:∀d∈D,d.WF)(hn:D.length<=40){q:List Bool}{v:Nat}(hv:v<4)(hG:BL q v D)(s an:B8)(ats:List B8)(hs:s.length<=2000)(hr:Gp s an ats=true)(hk:an=AH\/an=As\/an=Cv\/an=DT\/an=FO\/an=FP)(har:ats.length=LU an)(hts:∀i,(Ab ats i).length<=12)
 (n:Nat)(hn16:n<=16)(P:Nat->Bool)(F:Nat->BA)(hm:∀b,(Jh D b/\∃s,b=(an,Az s ats))↔ ∃j,j<n/\P j=true/\b=F j)(hF:∀j,j<n->∀t∈(F j).2,t.length<=12)(hso:(List.range n).Pairwise (fun i j=>Bk (F i)<Bk (F j)))
 (L:List B8)(hL:L=((List.range n).filter P).map fun j=>Bk (F j)):L0 base bb D s L:=by
 intro U b2 a2 c2 hI ho;have hLn:L.length<=1000:=by rw[hL,List.length_map];refine Nat.le_trans (List.length_filter_le _ _) ?_;rw[List.length_range];omega
 refine OT U bb b2 (bs s) a2 c2 L ho hLn ?_;intro W hB;have hI':CW W base bb D:=by obtain⟨u,h1,h2⟩:=hI;exact⟨u,h1.below hB,h2.below hB⟩
 obtain⟨s0,s1,s2,s3,s4,HR⟩:=Pf W base bb D hI' hW hn hv hG s an ats hs hr hk har;refine PK W base bb D hI' hW hn hv hG (bs s) an ats ?_ hts ?_ har s0 s1 s2 s3 s4 n hn16 P F hm hF hso L hL HR
 ·rcases hk with rfl|rfl|rfl|rfl|rfl|rfl<;>decide
 ·rw[har];unfold LU
  split<;>omega
end
def I1(k:Nat):B8:=As++([40]++Ad k++[44,88,41])
def Oz:B8:=As++[40,88,44,88,41]
def Ph:B8:=As++[40,88,44,89,41]
def Pg:B8:=DT++[40,90,41]
def OA:B8:=AH++[40,88,44,89,41]
theorem Dr(k:Nat):(Ad k).length<=12:=by simp[Ad]
theorem DR(ats:List B8)(h:∀t∈ats,t.length<=12)(i:Nat):(Ab ats i).length<=12:=by
 unfold Ab;rw[List.getD_eq_getElem?_getD]
 cases hi:ats[i]? with
 |none=>simp
 |some t=>exact h t (List.mem_of_getElem? hi)
section
variable {base bb:Nat} {D:List Ap} {q o:List Bool} {v:Nat}
theorem K7(hW:∀d∈D,d.WF)(hn:D.length<=40)(hv:v<4)(hG:BL q v D)(ho:∀i k,i<4->k<4->(Dm o i k=true↔CL (Dm q) i k))(k:Nat)(hk:k<4):L0 base bb D (I1 k) (EK As o k false 4):=by
 have hM:=hG.model hv ho;refine E9 hW hn hv hG (I1 k) As [Ad k,vX] (by simp[I1,As,Ad]) ?_ (.inr (.inl rfl)) rfl (DR _ (by intro t ht;simp only[List.mem_cons,List.not_mem_nil,or_false]at ht;rcases ht with rfl|rfl<;>simp[Ad,vX])) 4 (by omega) (fun j=>Dm o k j) (fun j=>(As,[Ad k,Ad j])) (Md hM.path rfl k hk) ?_ ?_ _ (MZ As o k)
 ·exact Du (P:=fun k=>Gp (I1 k) As [Ad k,vX]=true) (by decide+kernel) (by decide+kernel) (by decide+kernel) (by decide+kernel) k hk
 ·intro j _ t ht;simp only[List.mem_cons,List.not_mem_nil,or_false]at ht;rcases ht with rfl|rfl<;>exact Dr _
 ·exact Du (P:=fun k=>(List.range 4).Pairwise (fun i j=>Bk (As,[Ad k,Ad i])<Bk (As,[Ad k,Ad j]))) (by decide+kernel) (by decide+kernel) (by decide+kernel) (by decide+kernel) k hk
theorem K6(hW:∀d∈D,d.WF)(hn:D.length<=40)(hv:v<4)(hG:BL q v D)(ho:∀i k,i<4->k<4->(Dm o i k=true↔CL (Dm q) i k)):L0 base bb D Oz (Dp o 4):=by
 have hM:=hG.model hv ho;refine E9 hW hn hv hG Oz As [vX,vX] (by decide) (by decide+kernel) (.inr (.inl rfl)) rfl (DR _ (by decide)) 4 (by omega) (fun j=>Dm o j j) (fun j=>(As,[Ad j,Ad j])) (Mc hM.path rfl) ?_ (by decide+kernel) _ ?_
 ·intro j _ t ht;simp only[List.mem_cons,List.not_mem_nil,or_false]at ht;rcases ht with rfl|rfl<;>exact Dr _
 ·unfold Dp;simp only[Fw]
theorem Mo(hW:∀d∈D,d.WF)(hn:D.length<=40)(hv:v<4)(hG:BL q v D)(ho:∀i k,i<4->k<4->(Dm o i k=true↔CL (Dm q) i k)):L0 base bb D Ph (B6 As o 16):=by
 have hM:=hG.model hv ho;refine E9 hW hn hv hG Ph As [vX,vY] (by decide) (by decide+kernel) (.inr (.inl rfl)) rfl (DR _ (by decide)) 16 (by omega) (fun j=>Dm o (j / 4) (j%4)) (fun j=>(As,[Ad (j / 4),Ad (j%4)])) (KI hM.path rfl rfl (by decide)) ?_ (by decide+kernel) _ (GK As o);intro j _ t ht;simp only[List.mem_cons,List.not_mem_nil,or_false]at ht;rcases ht with rfl|rfl<;>exact Dr _
theorem K8(hW:∀d∈D,d.WF)(hn:D.length<=40)(hv:v<4)(hG:BL q v D)(ho:∀i k,i<4->k<4->(Dm o i k=true↔CL (Dm q) i k)):L0 base bb D OA (B6 AH q 16):=by
 have hM:=hG.model hv ho;refine E9 hW hn hv hG OA AH [vX,vY] (by decide) (by decide+kernel) (.inl rfl) rfl (DR _ (by decide)) 16 (by omega) (fun j=>Dm q (j / 4) (j%4)) (fun j=>(AH,[Ad (j / 4),Ad (j%4)])) (KI hM.edge rfl rfl (by decide)) ?_ (by decide+kernel) _ (GK AH q);intro j _ t ht;simp only[List.mem_cons,List.not_mem_nil,or_false]at ht;rcases ht with rfl|rfl<;>exact Dr _
theorem Nd(q:List Bool)(i:Nat):F3 q i 4=true↔ ∃k,k<4/\Dm q i k=true:=by
 unfold F3;rw[List.any_eq_true];constructor
 ·rintro⟨k,hk,h⟩;exact⟨k,List.mem_range.1 hk,h⟩
 ·rintro⟨k,hk,h⟩;exact⟨k,List.mem_range.2 hk,h⟩
theorem Mn(hW:∀d∈D,d.WF)(hn:D.length<=40)(hv:v<4)(hG:BL q v D)(ho:∀i k,i<4->k<4->(Dm o i k=true↔CL (Dm q) i k)):L0 base bb D Pg (Ej q 4):=by
 have hM:=hG.model hv ho;refine E9 hW hn hv hG Pg DT [vZ] (by decide) (by decide+kernel) (.inr (.inr (.inr (.inl rfl)))) rfl (DR _ (by decide)) 4 (by omega) (fun j=>F3 q j 4) (fun j=>(DT,[Ad j])) (NK (fun x=>(hM.out x).trans (by simp only[Nd])) rfl) ?_ (by decide+kernel) _ ?_
 ·intro j _ t ht;simp only[List.mem_cons,List.not_mem_nil,or_false]at ht;subst ht;exact Dr _
 ·unfold Ej;simp only[K5]
end
end
section
attribute [local go_sem] Ai Ae
open Go.RowKit Go.WideMaps Go.Maps
variable [DecidableEq R3] [DecidableEq A4]
theorem Hm(w:World)(ao:Option Addr)(n cap:Nat)(c f:Int)(hn:n<=maxLen)(hc:Ov w ao n)(h1: -9223372036854775808<=c)(h2:c<=9223372036854775807)(h3: -9223372036854775808<=f)(h4:f<=9223372036854775807):
 Calls prog 3 #[.slice ao n cap,.int .i64 c,.int .i64 f] w fun e w'=>e=.returned (.bool true)/\Below w.heap.size w w':=by
 have hp:=Fb c 4 (by decide);have hpk:=Fb f 4 (by decide);have hpc:=fun W=>J1 f 4 W h3 h4 (by decide) (by decide);have hrc:=fun W=>ND W c h1 h2;generalize EN c 4=v at*;generalize EN f 4=k at*;have HPC:=AJ hpc;have HRC:=AJ hrc;clear hpc hrc;go_enter func3,ntmps3;go_wp2_with fail;refine(N6 _ ao n cap hn hc).mono ?_;rintro e w1 ⟨q,hq,rfl,hB1⟩;have hcg:(prog.info? 25).map (fun i=>i.size)=some (Am q).toArray.size:=by rw[EP q hq];exact Hv
 have hZ1:=Ag.new w1 [.bool false,.bool false,.bool false,.bool false,.bool false,.bool false,.bool false,.bool false,.bool false,.bool false,.bool false,.bool false,.bool false,.bool false,.bool false,.bool false] 25;go_upto_region 2 with(refine wpList_store_row rfl 25 (.tmp 7) (.tmp 22) rfl w1.heap.size (Am q).toArray rfl rfl 25 _ hZ1 hcg (by rw[EP q hq];rfl) (NM q) ?_)
 have hG2:=hZ1.row (Am q);have hB2:=below_setRow ((Below.refl w1.heap.size w1).alloc (Nat.le_refl _) (.cells #[.bool false,.bool false,.bool false,.bool false,.bool false,.bool false,.bool false,.bool false,.bool false,.bool false,.bool false,.bool false,.bool false,.bool false,.bool false,.bool false] 25)) (Nat.le_refl _) (Am q).toArray;have hBw2:=hB1.trans (hB2.mono hB1.size);clear hZ1 hB2 hB1;generalize (w1.alloc (.cells #[.bool false,.bool false,.bool false,.bool false,.bool false,.bool false,.bool false,.bool false,.bool false,.bool false,.bool false,.bool false,.bool false,.bool false,.bool false,.bool false] 25)).setRow w1.heap.size (Am q).toArray=w2 at*;go_upto_region 3 with(first|(refine wpList_load_row rfl 25 (.tmp 7) rfl w1.heap.size rfl 25 (Am q).toArray (0,0) _ hG2 underlying25 rfl hcg ?_)|(go_at_call 8;refine(NI _ q hq).mono ?_;rintro e w3 ⟨o,ho,rfl,hle,hB3⟩;have hG3:=hG2.below hB3;have hZ3:=Ag.new w3 [.bool false,.bool false,.bool false,.bool false,.bool false,.bool false,.bool false,.bool false,.bool false,.bool false,.bool false,.bool false,.bool false,.bool false,.bool false,.bool false] 25;have hco:(prog.info? 25).map (fun i=>i.size)=some (Am o).toArray.size:=(by rw[EP o ho];exact Hv);have hl3:=hG3.lt)|(refine wpList_store_row rfl 25 (.tmp 8) (.tmp 24) rfl w3.heap.size (Am o).toArray rfl rfl 25 _ hZ3 hco (by rw[EP o ho];rfl) (NM o) ?_));have hG4:=(hG3.alloc (.cells #[.bool false,.bool false,.bool false,.bool false,.bool false,.bool false,.bool false,.bool false,.bool false,.bool false,.bool false,.bool false,.bool false,.bool false,.bool false,.bool false] 25)).rowOff w3.heap.size (Am o).toArray (by omega);have hP4:=hZ3.row (Am o);have hB4:=below_setRow ((Below.refl w3.heap.size w3).alloc (Nat.le_refl _) (.cells #[.bool false,.bool false,.bool false,.bool false,.bool false,.bool false,.bool false,.bool false,.bool false,.bool false,.bool false,.bool false,.bool false,.bool false,.bool false,.bool false] 25)) (Nat.le_refl _) (Am o).toArray;have hBw3:=hBw2.trans (hB3.mono hBw2.size);have hBw4:=hBw3.trans (hB4.mono hBw3.size);clear hZ3 hB4 hB3 hG2 hG3 hBw2 hBw3;generalize (w3.alloc (.cells #[.bool false,.bool false,.bool false,.bool false,.bool false,.bool false,.bool false,.bool false,.bool false,.bool false,.bool false,.bool false,.bool false,.bool false,.bool false,.bool false] 25)).setRow w3.heap.size (Am o).toArray=w4 at*;obtain⟨hload,hcore⟩:=Kl q v hp;have hgd:=Lw hp hcore;have hwf:=Eh (bs (Dt q v));have hgl:=Lv q v hp;have HL:=AJ (fun W=>MB W (bs (Dt q v)) (by rw[Eu];unfold maxLen;omega) hload);have HT:=AJ (show bs (CY (Bb q 16))++bs (CO v)=bs (Dt q v) by rw[Cy];rfl)
 have hfl:∀z∈Bb q 16,z.length<=20:=by intro z hz;unfold Bb at hz;obtain⟨j,_,rfl⟩:=List.mem_map.1 hz;simp[DE,Ad]
 have hf16:=FT q 16;have ht1:(bs (CY (Bb q 16))).size=(CY (Bb q 16)).length:=Eu _;have ht2:(bs (CO v)).size=(CO v).length:=Eu _;have ht3:=KE v hp;have ht4:(CY (Bb q 16)).length<=2000:=by unfold Dt at hgl;rw[List.length_append]at hgl;omega
 clear hload hcore hgl;have HFC:=AJ (fun W=>N5 W q hq);generalize (Aw (bs (Dt q v))).cls=D at*;generalize Dt q v=gt at*;generalize CO v=rt at*;generalize Bb q 16=fs at*;go_upto_region 6 with(first|(refine wpList_load_row rfl 25 (.tmp 7) rfl w1.heap.size rfl 25 (Am q).toArray (0,0) _ hG4 underlying25 rfl hcg ?_)|(go_at_call 11;refine(HFC.out _).mono ?_;rintro e w5 ⟨fv,rfl,hfo,hB5⟩;obtain⟨fo,fcap,rfl⟩:=Al hfo)|(go_at_call 10;refine(OM _ w4.heap.size fo fcap _ hfo hfl hf16).mono ?_;rintro e wx ⟨rfl,hwx⟩;subst wx)|(go_at_call 12;refine(HRC.out _).mono ?_;rintro e wx ⟨rfl,hwx⟩;subst wx)|(go_at_call 9;rw[HT.out];refine(HL.out _).mono ?_;rintro e w6 ⟨bb,rfl,hI6,hB6⟩));have hBw5:=hBw4.trans (hB5.mono hBw4.size);have hBw6:=hBw5.trans (hB6.mono hBw5.size);have HG6:=AJ ((hG4.below hB5).below hB6);have HP6:=AJ ((hP4.below hB5).below hB6);have HI6:=AJ hI6;clear HL HT HFC HRC hG4 hP4 hI6 hfo hB5 hB6 hBw5 hBw4 ht1 ht2 ht3 ht4 hfl hf16 hcg hco;obtain⟨i1,hi1,hy0,hy1,hy2⟩:=info_parts EB;go_wp2_with (go_at_call 13;refine(HPC.out _).mono ?_;rintro e wx ⟨rfl,hwx⟩;subst wx)
 go_loopw [11,12,13] (fun v1 v2 iv wr=>∃(i:Nat),i<=4/\iv=.int .i64 i/\JN wr w6.heap.size v1 (Dp o i) v2 (Ej q i)/\Below w6.heap.size w6 wr) (fun _ _ iv _=>4-(intOf iv).toNat)
 case atStart=>exact⟨0,by omega,rfl,⟨World.ownsRow_nil _ _ _ _,World.ownsRow_nil _ _ _ _,fun k h=>by simp[Value.ownBlock]at h⟩,Below.refl _ _⟩
 case round=>
  obtain⟨i,hi,rfl,hT,hB⟩:=hrel;by_cases hli:i<4
  ·have cp:=Jj (HP6.out.below hB) ho i i hli hli;have HRS:=AJ (IZ o i);have hrl:=JW o i;have hb2:(bs (Ad i)).size=1:=rfl;have hsz:=hB.size;cases hx:Dm o i i
   case' false=>
    rw[hx]at cp;go_upto_region 13 with fail
    have e2:=HRS.out.trans (if_neg (by rw[hx];decide));have hT2:=hT;rw[<-e2]at hT2;have hB2:=hB;clear hT hB cp HRS e2 hx;obtain⟨W,rfl⟩:∃W,W=wr:=⟨_,rfl⟩
   case' true=>
    rw[hx]at cp;obtain⟨vo,vcap,rfl⟩:=Al hT.r1;go_upto_region 13 with(first|(go_at_call 14;refine(D3 i hli _).mono ?_;rintro e wx ⟨rfl,hwx⟩;subst wx)|(at_builtin;refine Bp _ rfl _ _ 31 rfl w6.heap.size 9 i1 _ 1 16 underlying31 hi1 hy0 hy1 hy2 rfl (by decide) _ (Dp o i).length (CM (Dp o i)) rfl (hT.r1.alloc _) ⟨wr.heap.size,0,none⟩ 1 1 [.string (Gu As i i)] rfl (by decide) rfl (AP _ [.string (Gu As i i)] _) (by intro u hu;simp at hu;subst hu;rfl) (by unfold maxLen;omega) (by omega) (by simp;omega) ?_;intro g2 cap2 w7 ho2 hg2 hp2));rw[Gt]at ho2;have e2:=HRS.out.trans (if_pos hx);have hT2:=(hT.alloc _).push ho2 hg2 hp2;rw[<-e2]at hT2;have hB2:=(hB.alloc (by omega) _).grown hg2 (by simp;omega) (B3 hT.r1);clear hT hB cp HRS ho2 hg2 hp2 e2 hx;obtain⟨W,rfl⟩:∃W,W=w7:=⟨_,rfl⟩
   all_goals
    clear hsz hrl;have hsz:=hB2.size;go_wp2_with fail
    go_loopw [14,15] (fun sv mv wr=>∃(m:Nat),m<=4/\mv=.int .i64 m/\sv=.bool (F3 q i m)/\Below W.heap.size W wr) (fun _ mv _=>4-(intOf mv).toNat)
    case atStart=>exact⟨0,by omega,rfl,rfl,Below.refl _ _⟩
    case round=>
     obtain⟨m,hm,rfl,rfl,hBm⟩:=hrel;by_cases hlm:m<4
     ·have cg:=Jj ((HG6.out.below hB2).below hBm) hq i m hli hlm;have HA:=AJ (LW q i m);generalize F3 q i m=s at*;generalize Dm q i m=y at*;cases s<;>cases y
      all_goals
       go_wp2_with fail;exact⟨⟨m+1,hlm,by go_num,by rw[HA.out];rfl,hBm⟩,by simp[intOf];omega⟩
     ·have hme:m=4:=by omega
      subst hme;have hT3:=hT2.below hBm;have hB3:=hB2.trans (hBm.mono hsz);have HOS:=AJ (J4 q i);have hol:=Lh q i;have hsz3:=hB3.size;cases hx:F3 q i 4
      ·have e2:=HOS.out.trans (if_neg (by rw[hx];decide));rw[<-e2]at hT3;clear hT2 hB2 hBm HOS e2;go_wp2_with fail;exact⟨⟨i+1,hli,by go_num,hT3,hB3⟩,by simp[intOf];omega⟩
      ·have e2:=HOS.out.trans (if_pos hx);obtain⟨vo,vcap,rfl⟩:=Al hT3.r2;clear hT2 hB2 hBm HOS;go_wp2_with (first|(go_at_call 14;refine(D3 i hli _).mono ?_;rintro e wx ⟨rfl,hwx⟩;subst wx)|(at_builtin;refine Bp _ rfl _ _ 31 rfl w6.heap.size 9 i1 _ 1 16 underlying31 hi1 hy0 hy1 hy2 rfl (by decide) _ (Ej q i).length (CM (Ej q i)) rfl (hT3.r2.alloc _) ⟨wr.heap.size,0,none⟩ 1 1 [.string (OW DT i)] rfl (by decide) rfl (AP _ [.string (OW DT i)] _) (by intro u hu;simp at hu;subst hu;rfl) (by unfold maxLen;omega) (by omega) (by simp;omega) ?_;intro g2 cap2 w7 ho2 hg2 hp2));rw[NL]at ho2;have hT4:=((hT3.symm.alloc _).push ho2 hg2 hp2).symm;rw[<-e2]at hT4;exact⟨⟨i+1,hli,by go_num,hT4,(hB3.alloc (by omega) _).grown hg2 (by simp;omega) (B3 hT3.r2)⟩,by simp[intOf];omega⟩
  ·have hie:i=4:=by omega
   subst hie;have HBI:=AJ (fun(U:World) (h:Below w6.heap.size w6 U)=>(show CW U w5.heap.size bb D by obtain⟨u,h1,h2⟩:=HI6.out;exact⟨u,h1.below h,h2.below h⟩));have S1:=AJ (K7 (base:=w5.heap.size) (bb:=bb) hwf.2 hwf.1 hp hgd hle k hpk);have S2:=AJ (K6 (base:=w5.heap.size) (bb:=bb) hwf.2 hwf.1 hp hgd hle);have S3:=AJ (Mo (base:=w5.heap.size) (bb:=bb) hwf.2 hwf.1 hp hgd hle);have S4:=AJ (Mn (base:=w5.heap.size) (bb:=bb) hwf.2 hwf.1 hp hgd hle);have S5:=AJ (K8 (base:=w5.heap.size) (bb:=bb) hwf.2 hwf.1 hp hgd hle);have HQ1:=AJ (show(⟨#[112,97,116,104,40]⟩:ByteArray)++bs (Ad k)++⟨#[44,88,41]⟩=bs (I1 k) by show bs [112,97,116,104,40]++bs (Ad k)++bs [44,88,41]=_;rw[Cy,Cy];rfl);have hcg:(prog.info? 25).map (fun i=>i.size)=some (Am q).toArray.size:=by rw[EP q hq];exact Hv
   have hco:(prog.info? 25).map (fun i=>i.size)=some (Am o).toArray.size:=by rw[EP o ho];exact Hv
   have hb2:(bs (Ad k)).size=1:=rfl;clear HI6 HPC hgd hwf hle;obtain⟨ro,rc,rfl⟩:=Al hT.r1;obtain⟨uo,uc,rfl⟩:=Al hT.r2;have HSS:Hid (∀w':World,Below w6.heap.size w6 w'->w'.cell? ⟨w3.heap.size,0,none⟩=some (.bool (BP o 0))/\w'.cell? ⟨w3.heap.size,1,none⟩=some (.bool (BP o 1))/\w'.cell? ⟨w3.heap.size,2,none⟩=some (.bool (BP o 2))/\w'.cell? ⟨w3.heap.size,3,none⟩=some (.bool (BP o 3))/\w'.cell? ⟨w3.heap.size,4,none⟩=some (.bool (BP o 4))/\w'.cell? ⟨w3.heap.size,5,none⟩=some (.bool (BP o 5))/\w'.cell? ⟨w3.heap.size,6,none⟩=some (.bool (BP o 6))/\w'.cell? ⟨w3.heap.size,7,none⟩=some (.bool (BP o 7))/\w'.cell? ⟨w3.heap.size,8,none⟩=some (.bool (BP o 8))/\w'.cell? ⟨w3.heap.size,9,none⟩=some (.bool (BP o 9))/\w'.cell? ⟨w3.heap.size,10,none⟩=some (.bool (BP o 10))/\w'.cell? ⟨w3.heap.size,11,none⟩=some (.bool (BP o 11))/\w'.cell? ⟨w3.heap.size,12,none⟩=some (.bool (BP o 12))/\w'.cell? ⟨w3.heap.size,13,none⟩=some (.bool (BP o 13))/\w'.cell? ⟨w3.heap.size,14,none⟩=some (.bool (BP o 14))/\w'.cell? ⟨w3.heap.size,15,none⟩=some (.bool (BP o 15))):=by intro W hBW;have h:=HP6.out.below hBW;rw[Hw o ho]at h;exact⟨h.cell 0,h.cell 1,h.cell 2,h.cell 3,h.cell 4,h.cell 5,h.cell 6,h.cell 7,h.cell 8,h.cell 9,h.cell 10,h.cell 11,h.cell 12,h.cell 13,h.cell 14,h.cell 15⟩
   have HCO:Hid (∀W:World,Calls prog 16 #[.agg #[.bool (BP o 0),.bool (BP o 1),.bool (BP o 2),.bool (BP o 3),.bool (BP o 4),.bool (BP o 5),.bool (BP o 6),.bool (BP o 7),.bool (BP o 8),.bool (BP o 9),.bool (BP o 10),.bool (BP o 11),.bool (BP o 12),.bool (BP o 13),.bool (BP o 14),.bool (BP o 15)],.string ⟨#[112,97,116,104]⟩,.int .i64 (k:Nat),.bool false] W fun e w'=>∃v,e=.returned v/\w'.ownsRow W.heap.size 9 1 v (EK As o k false 4).length (CM (EK As o k false 4))/\Below W.heap.size W w'):=by intro W;have h:=MY W o ho As (by decide) k hpk false;rw[Hw o ho]at h;exact h
   go_upto_region 20 with fail
   go_region_held3 (fun w'=>w'.cell? ⟨w3.heap.size,0,none⟩=some (.bool (BP o 0))/\w'.cell? ⟨w3.heap.size,1,none⟩=some (.bool (BP o 1))/\w'.cell? ⟨w3.heap.size,2,none⟩=some (.bool (BP o 2))/\w'.cell? ⟨w3.heap.size,3,none⟩=some (.bool (BP o 3))/\w'.cell? ⟨w3.heap.size,4,none⟩=some (.bool (BP o 4))/\w'.cell? ⟨w3.heap.size,5,none⟩=some (.bool (BP o 5))/\w'.cell? ⟨w3.heap.size,6,none⟩=some (.bool (BP o 6))/\w'.cell? ⟨w3.heap.size,7,none⟩=some (.bool (BP o 7))/\w'.cell? ⟨w3.heap.size,8,none⟩=some (.bool (BP o 8))/\w'.cell? ⟨w3.heap.size,9,none⟩=some (.bool (BP o 9))/\w'.cell? ⟨w3.heap.size,10,none⟩=some (.bool (BP o 10))/\w'.cell? ⟨w3.heap.size,11,none⟩=some (.bool (BP o 11))/\w'.cell? ⟨w3.heap.size,12,none⟩=some (.bool (BP o 12))/\w'.cell? ⟨w3.heap.size,13,none⟩=some (.bool (BP o 13))/\w'.cell? ⟨w3.heap.size,14,none⟩=some (.bool (BP o 14))/\w'.cell? ⟨w3.heap.size,15,none⟩=some (.bool (BP o 15))) (first
    |exact HSS.out _ hB.drew
    |exact HSS.out _ hBx7
    |exact HSS.out _ (hBx7.trans (hB8.mono hBx7.size))) (first
    |(go_at_call 14;refine(D3 k hpk _).mono ?_;rintro e wx ⟨rfl,hwx⟩;subst wx)
    |(go_at_call 16;refine(HCO.out _).mono ?_;rintro e w7 ⟨cv,rfl,hc7,hB7⟩;obtain⟨c7,cc7,rfl⟩:=Al hc7;have hBx7:=hB.drew.trans (hB7.mono hB.size))
    |(go_at_call 15;rw[HQ1.out];refine(S1.out _ _ c7 cc7 (HBI.out _ hBx7) hc7).mono ?_;rintro e w8 ⟨rfl,hB8⟩))
   have hBx8:=hBx7.trans (hB8.mono hBx7.size);have hT8:=(hT.drew.below hB7).below hB8;clear hT hB hB7 hB8 hc7 hBx7 HCO S1 HQ1;go_upto_region 22 with(go_at_call 15;refine(S2.out _ _ ro rc (HBI.out _ hBx8) hT8.r1).mono ?_;rintro e w9 ⟨rfl,hB9⟩)
   have hBx9:=hBx8.trans (hB9.mono hBx8.size);have hT9:=hT8.below hB9;clear hT8 hBx8 hB9 S2;have hP9:=HP6.out.below hBx9;go_upto_region 23 with(first|(refine wpList_load_row rfl 25 (.tmp 8) rfl w3.heap.size rfl 25 (Am o).toArray (0,0) _ hP9 underlying25 rfl hco ?_)|(go_at_call 11;refine(KU _ o ho As (by decide)).mono ?_;rintro e w10 ⟨fv,rfl,hf10,hB10⟩;obtain⟨f10,fc10,rfl⟩:=Al hf10;have hBx10:=hBx9.trans (hB10.mono hBx9.size))|(go_at_call 15;refine(S3.out _ _ f10 fc10 (HBI.out _ hBx10) hf10).mono ?_;rintro e w11 ⟨rfl,hB11⟩));have hBx11:=hBx10.trans (hB11.mono hBx10.size);have hT11:=(hT9.below hB10).below hB11;clear hT9 hBx9 hB10 hB11 hBx10 S3 hP9 hf10;go_upto_region 24 with(go_at_call 15;refine(S4.out _ _ uo uc (HBI.out _ hBx11) hT11.r2).mono ?_;rintro e w12 ⟨rfl,hB12⟩);have hBx12:=hBx11.trans (hB12.mono hBx11.size);have hG12:=HG6.out.below hBx12;clear hT11 hBx11 hB12 S4
   go_wp2_with (first|(refine wpList_load_row rfl 25 (.tmp 7) rfl w1.heap.size rfl 25 (Am q).toArray (0,0) _ hG12 underlying25 rfl hcg ?_)|(go_at_call 11;refine(KU _ q hq AH (by decide)).mono ?_;rintro e w13 ⟨fv,rfl,hf13,hB13⟩;obtain⟨f13,fc13,rfl⟩:=Al hf13;have hBx13:=hBx12.trans (hB13.mono hBx12.size))|(go_at_call 15;refine(S5.out _ _ f13 fc13 (HBI.out _ hBx13) hf13).mono ?_;rintro e w14 ⟨rfl,hB14⟩))
   go_ret
   exact⟨rfl,(hBw6.trans (hBx13.mono hBw6.size)).trans (hB14.mono (Nat.le_trans hBw6.size hBx13.size))⟩
end
section
open Go.ChangeShapes Go.WideShapes Go.ChangeAt Go.RowKit
theorem My:ownKnob prog.godebug=none:=by kernel_rfl
theorem MH:laidOutB prog=true:=by kernel_rfl
theorem M3:prog.cellsOf 3=1:=by kernel_rfl
theorem N7{w:World}{b o:Nat}{v:Value}(h:w.cell? ⟨b,o,none⟩=some v):b<w.heap.size:=by apply Classical.byContradiction;intro hn;have h0:w.heap[b]? =none:=Array.getElem?_eq_none (by omega);simp[World.cell?,h0]at h
theorem NX{w:World}{a:Addr}{zs:List Int}{n:Nat}(hn:n<=zs.length)(h:∀i,i<zs.length->w.cell? (a.add i)=some (.int .i64 (zs.getD i 0)))(hw:∀z∈zs,(Lit.int .i64 z).wf=true):Ov w (some a) n:=by
 intro i hi;obtain⟨b,off,rfl,hc⟩:=ints_at h (by omega);have hlz:i<zs.length:=by omega
 have hmem:zs.getD i 0∈zs:=by simp[hlz]
 have hb:=bounds_i64 (hw _ hmem);exact⟨b,off,zs.getD i 0,rfl,N7 (hc i (by omega)),hc i (by omega),hb.1,hb.2⟩
theorem MO(w:World):Ov w none 0:=fun i hi=>by omega
theorem If(os:Os)(started:os.Started)(H:Type)(enc:TypeId×Value->H):
 ReturnsInHanded {} Tryz.checked os 3 .any (Rows.pathsSpec.pre6 enc prog Tryz.f3 Rows.pathsRow.domain false) (Rows.pathsSpec.post enc prog Tryz.f3 false true false false):=by
 refine returnsInHanded_of_change (C:=Tryz.checked) My started (by kernel_rfl) func3
  (ChangeSpec.witness6 (enc:=enc) (C:=Tryz.checked) false ⟨#[],#[.slice none 0 0,.int .i64 0,.int .i64 0],[]⟩ 8 (by kernel_rfl) (by kernel_rfl) (by kernel_rfl) (by kernel_rfl)) ?_
 intro W base args ds gs before hval0 hW _ _;have hval:∀(j:Nat) t v,Tryz.f3.params[j]? =some t->args[j]? =some v->Value.okWide prog W .any base t v:=hval0;have hW':=hW;obtain⟨p,q,hA0,hV,rfl,_,_⟩:=hW;have hA:DataW.TrodAll enc prog W 0 (fun _=>true) true Tryz.f3.params.toList args.toList ds p:=hA0;rw[Tryz.params3]at hA hval;obtain⟨v0,v1,v2,d0,d1,d2,p0,p1,p2,rfl,rfl,rfl,h0,h1,h2⟩:=trodAll_three hA;obtain⟨rfl,rfl⟩:=trodVars_none hV;have h0k:=h0;obtain⟨fuel,hf⟩:=h0;obtain⟨c,rfl,rfl,rfl,wc⟩:=open_int underlying3 (hval 1 3 v1 rfl rfl) h1;obtain⟨m,rfl,rfl,rfl,wm⟩:=open_int underlying3 (hval 2 3 v2 rfl rfl) h2;clear hA0 hval0
 haveI:DecidableEq R3:=Classical.typeDecidableEq R3
 haveI:DecidableEq A4:=Classical.typeDecidableEq A4
 simp only[List.append_nil]at hW';have hlt:∀x∈p0,x.block<W.heap.size:=fun x hx=>by simpa using hW'.lt x hx
 have hbc:=bounds_i64 wc;have hbm:=bounds_i64 wm
 have hargs:∀W':World,Below W.heap.size W W'->DataW.Trod enc prog W' 0 (fun b=>decide (b<W.heap.size)) true 22 v0 d0 p0:=
  fun W' hB=>Below.trod MH (by kernel_rfl) (of_decide_eq_true (by kernel_rfl)) h0k hB hlt
 obtain⟨a0,len,cap,rfl⟩:=okWide_slice underlying22 (hval 0 22 v0 rfl rfl);rcases open_ints underlying22 underlying3 M3 hf with⟨hcs,hx⟩|⟨a,len',cap',zs,hcs,_,hl,hm,hz,hx,hcell,hwz⟩
 ·simp[Value.cells]at hcs;obtain⟨rfl,rfl,rfl⟩:=hcs;simp only[Prod.mk.injEq]at hx;obtain⟨rfl,rfl⟩:=hx;refine(Hm W none 0 0 c m (by decide) (MO W) hbc.1 hbc.2 hbm.1 hbm.2).mono fun e W' ⟨he,hB⟩=>?_;subst he;exact⟨_,rfl,⟨_,_,_,[],_,[],hW',trodAll_mk1 (shut_bool underlying4 _),trodAll_mk3 (hargs W' hB) (shut_int underlying3 wc) (shut_int underlying3 wm),rfl,hB.frame _,fun h=>by cases h⟩⟩
 ·simp[Value.cells]at hcs;obtain⟨rfl,rfl,rfl⟩:=hcs;simp only[Prod.mk.injEq]at hx;obtain⟨rfl,rfl⟩:=hx;simp only[if_true]at hz;refine(Hm W (some a) len cap c m (by omega) (NX (by omega) hcell hwz) hbc.1 hbc.2 hbm.1 hbm.2).mono fun e W' ⟨he,hB⟩=>?_;subst he;exact⟨_,rfl,⟨_,_,_,[],_,[],hW',trodAll_mk1 (shut_bool underlying4 _),trodAll_mk3 (hargs W' hB) (shut_int underlying3 wc) (shut_int underlying3 wm),rfl,hB.frame _,fun h=>by cases h⟩⟩
theorem paths_holds:Rows.PathsSaid:=
 OpenClaim.holds_of_wide 3 Tryz.f3 rfl rfl rfl rfl rfl rfl rfl ⟨rfl,rfl,rfl,rfl,rfl⟩ rfl rfl rfl rfl rfl (by kernel_rfl) func3 (by kernel_rfl)
  (of_decide_eq_true (by kernel_rfl)) (by unfold Func.isWrapper;first|(rw[if_pos (by decide+kernel)];kernel_rfl)|(rw[if_neg (by decide+kernel)];exact⟨rfl,rfl⟩))
  (fun os started H enc _=>If os started H enc)
end
end Go.Proofs.YtpbfiffgcgnidaaGreat
