import Derived.Test.YtpbfiffgcgnidaaGreatDoorYal
import Derived.Test.YtpbfiffgcgnidaaGreatDoorY17
import Derived.Test.YtpbfiffgcgnidaaGreatDoorY43
namespace Go.Proofs.YtpbfiffgcgnidaaGreatDoor
set_option maxRecDepth 100000
set_option maxHeartbeats 4000000
set_option linter.unusedSimpArgs false
open Go.Proofs.Tryz
section
attribute [local go_sem] AE As
open Go.RowKit Go.WideMaps Go.Maps
def JE(c:Nat)(d:Bd):Nat:=if CR d.lits.length d.ts=true then 0 else c ^ (DV d).length
def DH(c:Nat)(ds:List Bd):Nat:=(ds.map (JE c)).sum
def EX(c q:Nat):Nat->List Bd->Bool
 |_,[]=>false
 |s,d::r=>if CR d.lits.length d.ts=true then EX c q s r else if q<s+D0 c q (DV d).length then true else EX c q (s+D0 c q (DV d).length) r
theorem M8(c q:Nat)(hc:1<=c)(ds:List Bd):∀s,s<=q->EX c q s ds=decide (q<s+DH c ds):=by
 induction ds with
 |nil=>intro s hs;simp[EX,DH];omega
 |cons d r y=>
  intro s hs;have e:DH c (d::r)=JE c d+DH c r:=by simp[DH]
  rw[e,EX];by_cases j:CR d.lits.length d.ts=true
  ·rw[Ai j,y s hs,show JE c d=0 by simp[JE,j],B7]
  ·rw[Af j,show JE c d=c ^ (DV d).length by simp[JE,j]];rcases P8 c q hc (DV d).length with h|⟨h,h'⟩
   ·rw[h];by_cases z:q<s+c ^ (DV d).length
    ·rw[Ai z,eq_comm,BE];omega
    ·rw[Af z,y _ (by omega),Nat.add_assoc]
   ·rw[Ai (by omega),eq_comm,BE];omega
theorem Qm(w:World)(base:Nat)(ao:Option Addr)(cap:Nat)(ds:List Bd)(j:Nat)(q2:1<=j)(hl:j<=100000)(hP:AY w base (.slice ao ds.length cap) ds)(hW:∀d∈ds,d.WF)(hn:ds.length<=40):
 Calls prog 109 #[.slice ao ds.length cap,.int .i64 (j:Nat)] w fun e w'=>e=.returned (.bool (decide (j<DH (max 1 (CE ds).length) ds)))/\Below w.heap.size w w':=by
 have Z:=M8 (max 1 (CE ds).length) j (by omega) ds 0 (by omega);rw[B7]at Z;rw[<-Z];clear Z;have x:=Ao (Mw w base ao cap ds hP hW hn);obtain⟨Y,V⟩:∃Y,Hid ((CE ds).length=Y):=⟨_,rfl⟩;rw[V.out]at x⊢;obtain⟨z,E⟩:∃z,Hid (EX (max 1 Y) j 0 ds=z):=⟨_,rfl⟩;rw[E.out];go_enter func109,ntmps109;go_wp2_with (go_at_call 142;refine(x.out).mono ?_;rintro e w1 ⟨rfl,i,G⟩);clear x V;rw[show(max 1 (Y:Int))=((max 1 Y:Nat):Int) by omega];obtain⟨C,hC⟩:∃C,max 1 Y=C:=⟨_,rfl⟩;have I:1<=C:=by omega
 have L:C<=600:=by omega
 rw[hC]at E⊢;clear hC i
 go_loopw [6,14] (fun sv iv wr=>∃(k s:Nat),k<=ds.length/\iv=.int .i64 (k:Nat)/\sv=.int .i64 (s:Nat)/\s<=j/\Hid (EX C j s (ds.drop k)=z)/\Below w.heap.size w wr) (fun _ iv _=>ds.length-(intOf iv).toNat)
 case atStart=>exact⟨0,0,by omega,rfl,rfl,by omega,E,G⟩
 case round=>
  clear E G;obtain⟨k,s,hk,rfl,rfl,hs,f,c⟩:=hrel;have q0:=c.size;by_cases u:k<ds.length
  ·obtain⟨g,bo,bcap,H,K,e0,e1,e2,e3,e4,e5,B⟩:=FB hP k u;subst H;have m:=hW ds[k] (Aj u);have l:=Aa u;obtain⟨d,hd⟩:∃d,ds[k]=d:=⟨_,rfl⟩;simp only[hd]at e0 e1 e2 e3 e4 e5 B m l;have hx:=f.out;rw[l,EX]at hx;clear hd l f;rw[<-c.cell (p:=⟨g,k*6,none⟩) K]at e0;rw[<-c.cell (p:=⟨g,k*6+1,none⟩) K]at e1;rw[<-c.cell (p:=⟨g,k*6+2,none⟩) K]at e2;rw[<-c.cell (p:=⟨g,k*6+3,none⟩) K]at e3;rw[<-c.cell (p:=⟨g,k*6+4,none⟩) K]at e4;rw[<-c.cell (p:=⟨g,k*6+5,none⟩) K]at e5;have h3:d.ts.length<=3:=(m.words (d.name,d.ts) (by simp[Bd.atoms])).2.1;have hF:∀W:World,Calls prog 72 #[.agg #[.string d.nm,.int .i64 d.cn,.string (d.t 0),.string (d.t 1),.string (d.t 2),.slice bo d.lits.length bcap]] W fun e w'=>e=.returned (.bool (CR d.lits.length d.ts))/\Below W.heap.size W w':=fun W=>Tx W d.nm d.ts bo d.lits.length bcap h3 m.lits;have U:=Ao hF;clear hF;have P:=Aw.new wr [Value.string d.nm,.int .i64 d.cn,.string (d.t 0),.string (d.t 1),.string (d.t 2),.slice bo d.lits.length bcap] 86;have o:=c.alloc q0 (.cells #[Value.string d.nm,.int .i64 d.cn,.string (d.t 0),.string (d.t 1),.string (d.t 2),.slice bo d.lits.length bcap] 86);have J:w.heap.size<=(wr.alloc (.cells #[Value.string d.nm,.int .i64 d.cn,.string (d.t 0),.string (d.t 1),.string (d.t 2),.slice bo d.lits.length bcap] 86)).heap.size:=by simp;omega
   cases hf:CR d.lits.length d.ts
   ·rw[hf]at U hx;rw[Af (by simp)]at hx;clear hf;have O:Hid (∀W:World,Below w.heap.size w W->Calls prog 144 #[.agg #[.string d.nm,.int .i64 d.cn,.string (d.t 0),.string (d.t 1),.string (d.t 2),.slice bo d.lits.length bcap]] W fun e w'=>e=.returned (.int .i64 ((DV d).length:Nat))/\(DV d).length<=15/\Below W.heap.size W w'):=fun W hb=>Mv W base d bo bcap (Ah B hb) m;obtain⟨n,X⟩:∃n,(DV d).length=n:=⟨_,rfl⟩;rw[X]at O hx;clear X;have S:=Rh C j q2 I n;have i:j*C<=100000*600:=IS hl L;have R:n<=15->∀W:World,Calls prog 143 #[.int .i64 (C:Nat),.int .i64 (n:Nat),.int .i64 (j:Nat)] W fun r w'=>r=.returned (.int .i64 (D0 C j n:Nat))/\w'=W:=fun h W=>eP W C n j (by omega) hl (by omega);have A:=Ao R;clear R;obtain⟨p,hp⟩:∃p,D0 C j n=p:=⟨_,rfl⟩;rw[hp]at A hx S;clear hp;have q4:p<=100000*600:=by omega
    clear S i;by_cases M:j<s+p
    ·rw[Ai M]at hx;have q1:(j:Int)<(s:Int)+(p:Int):=by omega
     subst hx;go_wp2_with (first|(go_at_call 72;refine(U.out _).mono ?_;rintro e w2 ⟨rfl,v⟩;have q:=P.below v;have c0:w2.cell? ⟨wr.heap.size,0,none⟩=some (.string d.nm):=q.cell 0;have c1:w2.cell? ⟨wr.heap.size,1,none⟩=some (.int .i64 d.cn):=q.cell 1;have c2:w2.cell? ⟨wr.heap.size,2,none⟩=some (.string (d.t 0)):=q.cell 2;have c3:w2.cell? ⟨wr.heap.size,3,none⟩=some (.string (d.t 1)):=q.cell 3;have c4:w2.cell? ⟨wr.heap.size,4,none⟩=some (.string (d.t 2)):=q.cell 4;have c5:w2.cell? ⟨wr.heap.size,5,none⟩=some (.slice bo d.lits.length bcap):=q.cell 5;have y:Below w.heap.size w w2:=o.trans (v.mono J);have Q:=y.size)|(go_at_call 144;refine(O.out _ y).mono ?_;rintro e w3 ⟨rfl,b,a⟩)|(go_at_call 143;refine(A.out b _).mono ?_;rintro e w4 ⟨he,q3⟩;subst w4;subst he))
     go_ret
     exact⟨rfl,y.trans (a.mono Q)⟩
    ·rw[Af M]at hx;have q1:¬(j:Int)<(s:Int)+(p:Int):=by omega
     have f:=Ao hx;clear hx;go_wp2_with (first|(go_at_call 72;refine(U.out _).mono ?_;rintro e w2 ⟨rfl,v⟩;have q:=P.below v;have c0:w2.cell? ⟨wr.heap.size,0,none⟩=some (.string d.nm):=q.cell 0;have c1:w2.cell? ⟨wr.heap.size,1,none⟩=some (.int .i64 d.cn):=q.cell 1;have c2:w2.cell? ⟨wr.heap.size,2,none⟩=some (.string (d.t 0)):=q.cell 2;have c3:w2.cell? ⟨wr.heap.size,3,none⟩=some (.string (d.t 1)):=q.cell 3;have c4:w2.cell? ⟨wr.heap.size,4,none⟩=some (.string (d.t 2)):=q.cell 4;have c5:w2.cell? ⟨wr.heap.size,5,none⟩=some (.slice bo d.lits.length bcap):=q.cell 5;have y:Below w.heap.size w w2:=o.trans (v.mono J);have Q:=y.size)|(go_at_call 144;refine(O.out _ y).mono ?_;rintro e w3 ⟨rfl,b,a⟩)|(go_at_call 143;refine(A.out b _).mono ?_;rintro e w4 ⟨he,q3⟩;subst w4;subst he));exact⟨⟨k+1,s+p,u,by go_num,by go_num,by omega,f,y.trans (a.mono Q)⟩,by simp[intOf];omega⟩
   ·rw[hf]at U hx;rw[Ai rfl]at hx;have f:=Ao hx;clear hf hx;go_wp2_with (go_at_call 72;refine(U.out _).mono ?_;rintro e w2 ⟨rfl,v⟩);exact⟨⟨k+1,s,u,by go_num,rfl,hs,f,o.trans (v.mono J)⟩,by simp[intOf];omega⟩
  ·have N:k=ds.length:=by omega
   have hx:=f.out;rw[N,AR,EX]at hx;subst hx;clear N;go_wp2_with fail
   go_ret
   exact⟨rfl,c⟩
end
end Go.Proofs.YtpbfiffgcgnidaaGreatDoor
