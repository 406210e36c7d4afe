import Derived.Test.YtpbfiffgcgnidaaGreatDoorYal
import Derived.Test.YtpbfiffgcgnidaaGreatDoorY9
namespace Go.Proofs.YtpbfiffgcgnidaaGreatDoor
set_option maxRecDepth 100000
set_option maxHeartbeats 4000000
set_option linter.unusedSimpArgs false
open Go.Proofs.Tryz
section
attribute [local go_sem] AE As
open Go.RowKit Go.WideMaps Go.Maps
theorem VV(w:World)(base:Nat)(g cap:Nat)(ps:List Pc)(hP:Fj w base (some ⟨g,0,none⟩) cap ps)(hn:ps.length<=3000)(i:Nat)(q6:i+2<ps.length)(hb:(ps[i].mark==33)=true)(y:(ps[i+1].mark==110)=true)(W:(ps[i+2].mark==40)=true):
 Calls prog 100 #[.slice (some ⟨g,0,none⟩) ps.length cap,.int .i64 (i:Nat)] w fun e w'=>GZ w ps i e w':=by
 obtain⟨g',t,hg,p0,p1,p2⟩:=DN hP i (by omega);simp only[Al,BM,Dx]at t;subst t;obtain⟨g',t,-,o0,o1,I⟩:=DN hP (i+1) (by omega);simp only[Al,BM,Dx]at t;subst t;obtain⟨g',t,-,z0,z1,z2⟩:=DN hP (i+1+1) q6;simp only[Al,BM,Dx]at t;subst t;have k5:g<w.heap.size+1:=by omega
 have q7:i<ps.length:=by omega
 have q8:i+1<ps.length:=by omega
 have U:ps.drop i=ps[i]::ps[i+1]::ps[i+2]::ps.drop (i+1+2):=by rw[Aa q7,Aa q8,Aa q6]
 have y8:=Dp _ 33 33 rfl hb;have K:=Dp _ 110 110 rfl y;have j3:ps[i+1].m=110:=by simpa using K
 have j4:(ps[i+1].m != 110)=false:=by rw[bne,K];rfl
 have N:=Dp _ 40 40 rfl W;have y2:ps[i+1+1].m=40:=by simpa using N
 have y3:(ps[i+1+1].m != 40)=false:=by rw[bne];exact Bl (! ·) N
 have Z:=Ao (show BF (ps.drop i)=(BU [] (ps.drop (i+1+2))).bind (Dj fun ts y1=>some (⟨ps[i+1].s,ts,ps[i+1].pl,ps[i].pl,true⟩,y1)) by rw[U,BF,Ai hb,K5 _ _ _ _ _ y W]);clear hb U y W;obtain⟨i1,j7,z7,z8,z9⟩:=Bc Oj;go_enter func100,ntmps100;go_wp2_with fail
 go_loopw [1] (fun iv wr=>∃(q:Nat) (acc:List RT) (tv:Value),iv=.int .i64 q/\q<=ps.length/\acc.length<=q/\Hid (I1 ps acc q=BU [] (ps.drop (i+1+2)))/\Aw wr w.heap.size L3 69/\Aw wr (w.heap.size+1) [.string ps[i+1].w,tv,.int .i64 (ps[i+1].pl:Nat),.int .i64 (ps[i].pl:Nat),.bool true] 69/\wr.ownsRow w.heap.size 130 3 tv acc.length (acc.flatMap RT.cells)/\Below w.heap.size w wr) (fun iv _=>ps.length-(intOf iv).toNat)
 case atStart=>exact⟨i+1+1,[],.slice none 0 0,by go_num,by omega,by simp,Oa ps [] _ (.inl rfl),EI w L3 69 [.string ps[i+1].w,.slice none 0 0,.int .i64 (ps[i+1].pl:Nat),.int .i64 (ps[i].pl:Nat),.bool true] 69,C9 w (.cells L3.toArray 69) [.string ps[i+1].w,.slice none 0 0,.int .i64 (ps[i+1].pl:Nat),.int .i64 (ps[i].pl:Nat),.bool true] 69,Ak _ _ _ _,((Ag _ w).alloc (Ab _) _).alloc (by simp) _⟩
 case round=>
  clear p0 p1 p2 o0 o1 I z0 z1 z2;obtain⟨q,acc,tv,rfl,hq,y9,J,hR,hA,hT,V⟩:=hrel;obtain⟨x,z,rfl⟩:=Au hT;obtain⟨a0,a1,a2,a3,a4⟩:=hA.c5;obtain⟨r0,r1,r2,r3,r4⟩:=hR.c5;have fR:=hR.frozen;have fA:=hA.frozen;have k0:=hA.lt;have k8:g<wr.heap.size:=by have:=V.size;omega
  have k6:g≠w.heap.size:=by omega
  have k7:g≠w.heap.size+1:=by omega
  have P:w.heap.size≠g:=by omega
  have k9:=IV q (by omega);have q4:∀(k:Nat) (hk:k<ps.length),wr.cell? ⟨g,k*3,none⟩=some (.int .u8 ps[k].m)/\wr.cell? ⟨g,k*3+1,none⟩=some (.string ps[k].w)/\wr.cell? ⟨g,k*3+2,none⟩=some (.int .i64 (ps[k].pl:Nat)):=by intro k hk;obtain⟨g',t,k4,n0,O,n2⟩:=DN hP k hk;simp only[Al,BM,Dx]at t;subst t;exact⟨by rw[V.cell (p:=⟨g,k*3,none⟩) hg];exact n0,by rw[V.cell (p:=⟨g,k*3+1,none⟩) hg];exact O,by rw[V.cell (p:=⟨g,k*3+2,none⟩) hg];exact n2⟩
  have Y:=Ao q4;have H:=Ao hR;have q3:=Ao hA;clear q4 hR hA;go_upto_region 13 with fail
  go_cut [88] from 71 to 136 (fun gv L=>gv=.bool (Vt ps acc q)/\L=wr)
  case first=>
   by_cases R:acc=[]
   ·have n:=Ao (show Vt ps acc q=true by rw[R];rfl);have y0:acc.length=0:=by rw[R];rfl
    have j1:(acc.length:Int)=0:=by omega
    have v2:((acc.length:Int)==0)=true:=by rw[j1];rfl
    clear R y0 j1;go_wp2_with fail;go_meet;exact⟨Bl Value.bool n.out.symm,rfl⟩
   ·have y4:acc.length≠0:=by cases acc with
     |nil=>exact absurd rfl R
     |cons a b=>simp
    have q9:¬(acc.length:Int)=0:=by omega
    have y5:((acc.length:Int)==0)=false:=by simpa using q9
    by_cases Q:q<ps.length
    ·obtain⟨b0,b1,b2⟩:=Y.out q Q;have n:=Ao (aP ps acc q R Q);cases h44:(ps[q].mark==44)
     ·have m1:=DJ _ 44 44 rfl h44;have m2:¬ps[q].m=44:=by simpa using m1
      have r:=Ao (n.out.trans h44);clear R h44;go_wp2_with fail;go_meet;exact⟨Bl Value.bool r.out.symm,rfl⟩
     ·have m1:=Dp _ 44 44 rfl h44;have m2:ps[q].m=44:=by simpa using m1
      have r:=Ao (n.out.trans h44);clear R h44;go_wp2_with fail;go_meet;exact⟨Bl Value.bool r.out.symm,rfl⟩
    ·have n:=Ao (WE ps acc q R Q);clear R;go_wp2_with fail;go_meet;exact⟨Bl Value.bool n.out.symm,rfl⟩
  case rest=>
   obtain⟨j6,z5⟩:=hcut;subst j6;subst wc;cases hgo:Vt ps acc q
   ·have M:=Ao (aM ps acc q hgo);have z3:=aN ps acc q hgo;have d:=Av hT H.out (by decide);clear hgo z3;by_cases Q:q<ps.length
    ·obtain⟨b0,b1,b2⟩:=Y.out q Q;have o:ps.drop q=ps[q]::ps.drop (q+1):=Aa Q;cases h41:(ps[q].mark==41)
     ·have B:=Ao (show BF (ps.drop i)=none by rw[Z.out,<-J.out,M.out,o,Option.bind_some,F5,h41];rfl);have O:=DJ _ 41 41 rfl h41;have n2:¬ps[q].m=41:=by simpa using O
      clear Z J M o h41;go_upto_region 19 with fail
      go_region
      all_goals go_wp2_with fail
      all_goals
       refine Aq (v:=.tuple #[.agg #[.string ps[i+1].w,.slice x acc.length z,.int .i64 (ps[i+1].pl:Nat),.int .i64 (ps[i].pl:Nat),.bool true],.int .i64 ((q:Nat)+1),.bool false]) (by simp[results,results100,go_sem,r0,r1,r2,r3,r4]) rfl ?_;refine Ea (cs:=[.string ps[i+1].w,.slice x acc.length z,.int .i64 (ps[i+1].pl:Nat),.int .i64 (ps[i].pl:Nat),.bool true]) ?_ B.out;refine DB ?_
       repeat (refine AQ ?_ (by simp only[];omega) _)
       exact V
     ·have O:=Dp _ 41 41 rfl h41;have n2:ps[q].m=41:=by simpa using O
      by_cases h3:acc.length<=3
      ·have B:=Ao (show BF (ps.drop i)=some (⟨ps[i+1].s,acc,ps[i+1].pl,(ps[i].pl:Nat),true⟩,ps.drop (q+1)) by rw[Z.out,<-J.out,M.out,o,Option.bind_some,F5,h41,Bq h3];rfl);have j5:(acc.length:Int)<=3:=by omega
       clear Z J M o h41;go_upto_region 19 with fail
       go_region_held3 (fun w'=>w'.cell? ⟨w.heap.size+1,0,none⟩=some (.string ps[i+1].w)/\w'.cell? ⟨w.heap.size+1,1,none⟩=some (.slice x acc.length z)/\w'.cell? ⟨w.heap.size+1,2,none⟩=some (.int .i64 (ps[i+1].pl:Nat))/\w'.cell? ⟨w.heap.size+1,3,none⟩=some (.int .i64 (ps[i].pl:Nat))/\w'.cell? ⟨w.heap.size+1,4,none⟩=some (.bool true)/\w'.cell? ⟨g,q*3,none⟩=some (.int .u8 ps[q].m)) (go_keep) (fail)
       all_goals go_wp2_with fail
       all_goals
        refine Aq (v:=.tuple #[.agg #[.string ps[i+1].w,.slice x acc.length z,.int .i64 (ps[i+1].pl:Nat),.int .i64 (ps[i].pl:Nat),.bool true],.int .i64 ((q+1:Nat):Int),.bool true]) (by simp[results,results100,go_sem,r0,r1,r2,r3,r4]) rfl ?_;refine Hs (k:=q+1) (cs:=[.string ps[i+1].w,.slice x acc.length z,.int .i64 (ps[i+1].pl:Nat),.int .i64 (ps[i].pl:Nat),.bool true]) ?_ B.out (by omega) ⟨_,rfl,?_⟩
        ·refine DB ?_
         repeat (refine AQ ?_ (by simp only[];omega) _)
         exact V
        ·exact AJ (AJ (AJ (AJ (AJ hT ⟨w.heap.size,0,none⟩ _ d) ⟨w.heap.size,1,none⟩ _ d) ⟨w.heap.size,2,none⟩ _ d) ⟨w.heap.size,3,none⟩ _ d) ⟨w.heap.size,4,none⟩ _ d
      ·have B:=Ao (show BF (ps.drop i)=none by rw[Z.out,<-J.out,M.out,o,Option.bind_some,F5,h41,A5 h3];rfl);have j5:¬(acc.length:Int)<=3:=by omega
       clear Z J M o h41;go_upto_region 19 with fail
       go_region_held3 (fun w'=>w'.cell? ⟨w.heap.size+1,0,none⟩=some (.string ps[i+1].w)/\w'.cell? ⟨w.heap.size+1,1,none⟩=some (.slice x acc.length z)/\w'.cell? ⟨w.heap.size+1,2,none⟩=some (.int .i64 (ps[i+1].pl:Nat))/\w'.cell? ⟨w.heap.size+1,3,none⟩=some (.int .i64 (ps[i].pl:Nat))/\w'.cell? ⟨w.heap.size+1,4,none⟩=some (.bool true)/\w'.cell? ⟨g,q*3,none⟩=some (.int .u8 ps[q].m)) (go_keep) (fail)
       all_goals go_wp2_with fail
       all_goals
        refine Aq (v:=.tuple #[.agg #[.string ps[i+1].w,.slice x acc.length z,.int .i64 (ps[i+1].pl:Nat),.int .i64 (ps[i].pl:Nat),.bool true],.int .i64 ((q:Nat)+1),.bool false]) (by simp[results,results100,go_sem,r0,r1,r2,r3,r4]) rfl ?_;refine Ea (cs:=[.string ps[i+1].w,.slice x acc.length z,.int .i64 (ps[i+1].pl:Nat),.int .i64 (ps[i].pl:Nat),.bool true]) ?_ B.out;refine DB ?_
        repeat (refine AQ ?_ (by simp only[];omega) _)
        exact V
    ·have B:=Ao (show BF (ps.drop i)=none by rw[Z.out,<-J.out,M.out,AA (by omega)];rfl);clear Z J M;go_upto_region 19 with fail
     go_region
     all_goals go_wp2_with fail
     all_goals
      refine Aq (v:=.tuple #[.agg #[.string ps[i+1].w,.slice x acc.length z,.int .i64 (ps[i+1].pl:Nat),.int .i64 (ps[i].pl:Nat),.bool true],.int .i64 ((q:Nat)+1),.bool false]) (by simp[results,results100,go_sem,r0,r1,r2,r3,r4]) rfl ?_;refine Ea (cs:=[.string ps[i+1].w,.slice x acc.length z,.int .i64 (ps[i+1].pl:Nat),.int .i64 (ps[i].pl:Nat),.bool true]) ?_ B.out;refine DB ?_
      repeat (refine AQ ?_ (by simp only[];omega) _)
      exact V
   ·have HG:=Ao (aO ps acc q hgo);clear hgo;go_upto_region 15 with fail
    go_cut [110] from 71 to 136 (fun sv L=>sv=.bool (KP ps (q+1))/\L=wr)
    case first=>
     by_cases l:q+1<ps.length
     ·obtain⟨n0,O,n2⟩:=Y.out (q+1) l;have n:=Ao (Ls ps (q+1) l);have A:¬((ps.length:Int)<=(q:Int)+1):=by omega
      have y6:decide ((ps.length:Int)<=(q:Int)+1)=false:=A5 A;cases y:(ps[q+1].mark==110)
      ·have k1:=DJ _ 110 110 rfl y;have k2:(ps[q+1].m != 110)=true:=by rw[bne,k1];rfl
       have k3:¬ps[q+1].m=110:=by simpa using k1
       cases h118:(ps[q+1].mark==118)
       ·have l1:=DJ _ 118 118 rfl h118;have l2:(ps[q+1].m != 118)=true:=by rw[bne,l1];rfl
        have l3:¬ps[q+1].m=118:=by simpa using l1
        have r:=Ao (n.out.trans (by rw[Ei,y,h118];rfl:(!Ei ps[q+1])=true));clear y h118 n;go_wp2_with fail;go_meet;exact⟨Bl Value.bool r.out.symm,rfl⟩
       ·have l1:=Dp _ 118 118 rfl h118;have l2:(ps[q+1].m != 118)=false:=by rw[bne,l1];rfl
        have l3:ps[q+1].m=118:=by simpa using l1
        have r:=Ao (n.out.trans (by rw[Ei,y,h118];rfl:(!Ei ps[q+1])=false));clear y h118 n;go_wp2_with fail;go_meet;exact⟨Bl Value.bool r.out.symm,rfl⟩
      ·have k1:=Dp _ 110 110 rfl y;have k2:(ps[q+1].m != 110)=false:=by rw[bne,k1];rfl
       have k3:ps[q+1].m=110:=by simpa using k1
       have r:=Ao (n.out.trans (by rw[Ei,y];rfl:(!Ei ps[q+1])=false));clear y n;go_wp2_with fail;go_meet;exact⟨Bl Value.bool r.out.symm,rfl⟩
     ·have n:=Ao (Mc ps (q+1) l);have A:(ps.length:Int)<=(q:Int)+1:=by omega
      go_wp2_with fail;go_meet;exact⟨Bl Value.bool n.out.symm,rfl⟩
    case rest=>
     obtain⟨z4,z5⟩:=hcut;subst z4;subst wc;cases hst:KP ps (q+1)
     ·obtain⟨l,j0⟩:=PV ps (q+1) hst;have HN:=Ao (show I1 ps (acc++[ps[q+1].rt]) (q+2)=BU [] (ps.drop (i+1+2)) by rw[<-N9 ps acc q l j0,<-HG.out,J.out]);have j2:=Ao (SM ps[q+1]);have v0:(0:Int)<=(q:Int)+1:=by omega
      have v1:(q:Int)+1<(ps.length:Int):=by omega
      obtain⟨n0,O,n2⟩:=Y.out (q+1) l;have E:∀I,((wr.alloc I).drew).ownsRow w.heap.size 130 3 (.slice x acc.length z) acc.length (acc.flatMap RT.cells):=fun I=>hT.alloc I;have G:∀j u,[Value.string ps[q+1].w,.bool (ps[q+1].m==118),.int .i64 (ps[q+1].pl:Nat)][j]? =some u->((wr.alloc (.cells #[Value.string ps[q+1].w,.bool (ps[q+1].m==118),.int .i64 (ps[q+1].pl:Nat)] 130)).drew).cell? ((⟨wr.heap.size,0,none⟩:Addr).add j)=some u:=fun j u h=>AS wr [Value.string ps[q+1].w,.bool (ps[q+1].m==118),.int .i64 (ps[q+1].pl:Nat)] 130 j u h
      have S:∀u∈[Value.string ps[q+1].w,.bool (ps[q+1].m==118),.int .i64 (ps[q+1].pl:Nat)],u.oneCell'=true:=by
       intro u hu;simp only[Br,List.mem_nil_iff,lU]at hu;rcases hu with rfl|rfl|rfl<;>rfl
      have j9:acc.length+1<=maxLen:=by unfold maxLen;omega
      have j8:(acc.length+1)*32<=140737488355328:=by omega
      have q1:∀I,w.heap.size<=((wr.alloc I).drew).heap.size:=by intro I;simp;omega
      have X:=Av hT q3.out (by decide);have d:=Av hT H.out (by decide);have q5:=A9 hT;clear hst j0 HG J Z Y r0 r1 r2 r3 r4 fR;go_upto_region 17 with fail
      go_cut [] from 71 to 136 (fun L=>∃g2 c,Aw L w.heap.size L3 69/\Aw L (w.heap.size+1) [.string ps[i+1].w,.slice (some ⟨g2,0,none⟩) (acc.length+1) c,.int .i64 (ps[i+1].pl:Nat),.int .i64 (ps[i].pl:Nat),.bool true] 69/\L.ownsRow w.heap.size 130 3 (.slice (some ⟨g2,0,none⟩) (acc.length+1) c) (acc.length+1) (acc.flatMap RT.cells++[Value.string ps[q+1].w,.bool (ps[q+1].m==118),.int .i64 (ps[q+1].pl:Nat)])/\Below w.heap.size w L)
      case first=>
       go_region_law (refine EO rfl (.tmp 114) (.tmp 132) 67 rfl w.heap.size 130 i1 _ 3 32 underlying67 j7 z7 z8 z9 rfl (by decide) (.slice x acc.length z) acc.length (acc.flatMap RT.cells) (by simp[Act.eval]) (E _) ⟨wr.heap.size,0,none⟩ 1 1 [Value.string ps[q+1].w,.bool (ps[q+1].m==118),.int .i64 (ps[q+1].pl:Nat)] (by simp[Act.eval]) (by decide) rfl G S j9 j8 (q1 _) ?_;intro g2 c w4 C P;have f:=(q3.out.alloc _).drew.grown P X;have q2:=(H.out.alloc _).drew.grown P d;have d1:=f.cell 1;have y7:=f.frozen;have q0:Below w.heap.size w w4:=(V.trans ((Ac wr _).drew.mono V.size)).grown P (q1 _) q5;simp at d1)
       all_goals go_wp2_with fail
       all_goals go_meet
       all_goals
        exact⟨g2,c,q2.kept (Bg.setCell (b:=w.heap.size+1) w4 (p:=⟨w.heap.size+1,1,none⟩) rfl _) (by omega),f.setCell 1 _,AJ C ⟨w.heap.size+1,1,none⟩ _ (Av C f (by decide)),q0.setCell (p:=⟨w.heap.size+1,1,none⟩) (by simp only[];omega) _⟩
      case rest=>clear a0 a1 a2 a3 a4 fA E G S q1 X d q5 n0 O n2;obtain⟨g2,c,q2,f,C,q0⟩:=hcut;go_wp2_with fail;exact⟨⟨q+2,acc++[ps[q+1].rt],_,by go_num,by omega,by simp only[Am,List.length_singleton];omega,HN,q2,f,Nb C j2.out,q0⟩,by simp[intOf];omega⟩
     ·have B:=Ao (show BF (ps.drop i)=none by rw[Z.out,<-J.out,HG.out,PU ps (q+1) acc hst];rfl);clear Z J HG hst;go_wp2_with fail;refine Aq (v:=.tuple #[.agg #[.string ps[i+1].w,.slice x acc.length z,.int .i64 (ps[i+1].pl:Nat),.int .i64 (ps[i].pl:Nat),.bool true],.int .i64 ((q:Nat)+1),.bool false]) (by simp[results,results100,go_sem,r0,r1,r2,r3,r4]) rfl ?_;refine Ea (cs:=[.string ps[i+1].w,.slice x acc.length z,.int .i64 (ps[i+1].pl:Nat),.int .i64 (ps[i].pl:Nat),.bool true]) ?_ B.out
      repeat (refine AQ ?_ (by simp only[];omega) _)
      exact V
end
end Go.Proofs.YtpbfiffgcgnidaaGreatDoor
