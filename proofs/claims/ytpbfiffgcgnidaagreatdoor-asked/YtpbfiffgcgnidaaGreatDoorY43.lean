import Derived.Test.YtpbfiffgcgnidaaGreatDoorYal
import Derived.Test.YtpbfiffgcgnidaaGreatDoorY18
import Derived.Test.YtpbfiffgcgnidaaGreatDoorY42
namespace Go.Proofs.YtpbfiffgcgnidaaGreatDoor
set_option maxRecDepth 100000
set_option maxHeartbeats 4000000
set_option linter.unusedSimpArgs false
open Go.Proofs.Tryz
section
attribute [local go_sem] AE As
open Go.RowKit Go.WideMaps Go.Maps
def GU(xs l:List B8):List B8:=l.foldl DT xs
def KS(v:Bool)(l:List B8):List B8:=l.filter fun t=>Bo t==v
def Eo(v:Bool)(ats:List (B8×List B8)):List B8:=ats.flatMap fun a=>KS v a.2
theorem OW(w:World)(base sb:Nat)(mv lv:Value)(xs:List B8)(d:Bd)(bo:Option Addr)(bcap:Nat)(v:Bool)(hC:Aw w sb [mv,lv] 178)(hS:Cr w sb mv lv xs)(hL:w.ownsRow base 186 6 (.slice bo d.lits.length bcap) d.lits.length (d.lits.flatMap BQ.cells))(L:d.WF)(hx:xs.length<=1000):
 Calls prog 169 #[.pointer (some ⟨sb,0,none⟩),.agg #[.string d.nm,.int .i64 d.cn,.string (d.t 0),.string (d.t 1),.string (d.t 2),.slice bo d.lits.length bcap],.bool v] w fun e w'=>∃r lv',e=.returned (.tuple #[])/\Aw w' sb [r,lv'] 178/\Cr w' sb r lv' (GU xs (Eo v d.atoms))/\(GU xs (Eo v d.atoms)).length<=xs.length+15/\Below sb w w':=by
 have j1:=L.lits;have j2:=hC.lt;obtain⟨x0,j3⟩:∃x0,xs.length=x0:=⟨_,rfl⟩;obtain⟨zs,V⟩:∃zs,Hid (GU xs (Eo v d.atoms)=zs):=⟨_,rfl⟩;rw[V.out];go_enter func169,ntmps169;go_wp2_with (go_at_call 91;refine(LQ _ base d.nm (d.t 0) (d.t 1) (d.t 2) d.cn bo bcap d.name d.ts d.lits rfl (by first|exact hL|exact hL.alloc _) (by omega)).mono ?_;rintro e w1 ⟨U,y,rfl,G,b⟩);have c:Below sb w w1:=((Ac w _).mono (by omega)).trans (b.mono (by simp;omega));have C:Aw w1 sb [mv,lv] 178:=(hC.alloc _).below b;have N:Cr w1 sb mv lv xs:=(hS.alloc _).below b;have n:w1.ownsRow (w.alloc (.cells #[.string d.nm,.int .i64 d.cn,.string (d.t 0),.string (d.t 1),.string (d.t 2),.slice bo d.lits.length bcap] 86)).heap.size 80 5 (.slice (some ⟨U,0,none⟩) (d.lits.length+1) y) (d.lits.length+1) (d.atoms.flatMap FF):=G;have f:d.atoms.length=d.lits.length+1:=by simp[Bd.atoms]
 have z:=Ao f;clear f G b hC hS hL;generalize (w.alloc (.cells #[.string d.nm,.int .i64 d.cn,.string (d.t 0),.string (d.t 1),.string (d.t 2),.slice bo d.lits.length bcap] 86)).heap.size=R at n
 go_loopw [13] (fun jv wr=>∃(j:Nat) (ys:List B8) (mv lv:Value),j<=d.lits.length+1/\jv=.int .i64 (j:Nat)/\ys.length<=x0+3*j/\Hid (GU ys (Eo v (d.atoms.drop j))=zs)/\Aw wr sb [mv,lv] 178/\Cr wr sb mv lv ys/\
  wr.ownsRow R 80 5 (.slice (some ⟨U,0,none⟩) (d.lits.length+1) y) (d.lits.length+1) (d.atoms.flatMap FF)/\Below sb w wr) (fun jv _=>d.lits.length+1-(intOf jv).toNat)
 case atStart=>exact⟨0,xs,mv,lv,by omega,rfl,by omega,V,C,N,n,c⟩
 case round=>
  clear C N n c;obtain⟨j,ys,mv,lv,hj,rfl,H,HX,hC,hS,p,x⟩:=hrel;have q6:=hC.lt;by_cases u:j<d.lits.length+1
  ·obtain⟨a0,a1,a2,a3,a4⟩:=KD p z.out j (by rw[z.out];exact u);have q:=Aa (show j<d.atoms.length by rw[z.out];exact u);have Q:=L.words _ (Aj (show j<d.atoms.length by rw[z.out];exact u));obtain⟨a,ha⟩:∃a,d.atoms[j]'(by rw[z.out];exact u)=a:=⟨_,rfl⟩;simp only[ha]at a0 a1 a2 a3 a4 q Q;have q0:=Ao q;clear ha q;obtain⟨nm,ts⟩:=a;have q1:wr.cell? ⟨U,j*5,none⟩=some (.string (bs nm)):=a0;have q2:wr.cell? ⟨U,j*5+1,none⟩=some (.int .i64 (ts.length:Nat)):=a1;clear a0 a1;have h3:ts.length<=3:=Q.2.1;have q9:=fun W:World=>NO ts.length h3 wr.heap.size 2 W;have k:=Aw.new wr [Value.string (bs nm),.int .i64 (ts.length:Nat),.string (ID (nm,ts) 0),.string (ID (nm,ts) 1),.string (ID (nm,ts) 2)] 80;have M:=hC.alloc (.cells #[Value.string (bs nm),.int .i64 (ts.length:Nat),.string (ID (nm,ts) 0),.string (ID (nm,ts) 1),.string (ID (nm,ts) 2)] 80);have X:=hS.alloc (.cells #[Value.string (bs nm),.int .i64 (ts.length:Nat),.string (ID (nm,ts) 0),.string (ID (nm,ts) 1),.string (ID (nm,ts) 2)] 80);have B:=p.alloc (.cells #[Value.string (bs nm),.int .i64 (ts.length:Nat),.string (ID (nm,ts) 0),.string (ID (nm,ts) 1),.string (ID (nm,ts) 2)] 80);have P:=x.alloc (by omega) (.cells #[Value.string (bs nm),.int .i64 (ts.length:Nat),.string (ID (nm,ts) 0),.string (ID (nm,ts) 1),.string (ID (nm,ts) 2)] 80);have K:Hid (GU ys (KS v (ts.drop 0)++Eo v (d.atoms.drop (j+1)))=zs):=by show _=_;rw[<-HX.out,q0.out];rfl
   go_wp2_with fail;clear q1 q2 a2 a3 a4 q9 x hC hS p;obtain⟨AB,q3⟩:∃AB,wr.heap.size=AB:=⟨_,rfl⟩;rw[q3]at k q6⊢
   go_loopw [22] (fun iv wz=>∃(m:Nat) (ys:List B8) (mv lv:Value),m<=ts.length/\iv=.int .i64 (m:Nat)/\ys.length<=x0+3*j+m/\Hid (GU ys (KS v (ts.drop m)++Eo v (d.atoms.drop (j+1)))=zs)/\Aw wz sb [mv,lv] 178/\Cr wz sb mv lv ys/\
    wz.ownsRow R 80 5 (.slice (some ⟨U,0,none⟩) (d.lits.length+1) y) (d.lits.length+1) (d.atoms.flatMap FF)/\Below sb w wz/\Aw wz AB [.string (bs nm),.int .i64 (ts.length:Nat),.string (ID (nm,ts) 0),.string (ID (nm,ts) 1),.string (ID (nm,ts) 2)] 80) (fun iv _=>ts.length-(intOf iv).toNat)
   case atStart=>exact⟨0,ys,mv,lv,by omega,rfl,by omega,K,M,X,B,P,k⟩
   case round=>
    clear k M X B P K HX H;obtain⟨m,ys,mv,lv,hm,rfl,H,HZ,hC,hS,p,x,o⟩:=hrel;have j0:=hC.lt;by_cases g:m<ts.length
    ·have I:=Q.2.2 ts[m] (Aj g);have i:=Aa g
     have b0:wr.cell? ⟨AB,2+m,none⟩=some (.string (bs ts[m])):=by
      rw[o.cell];have h:m=0\/m=1\/m=2:=by omega
      rcases h with rfl|rfl|rfl<;>simp[ID,g]
     obtain⟨tm,A⟩:∃tm,ts[m]=tm:=⟨_,rfl⟩;rw[A]at b0 I i;have Z:=Ao i;clear A i;have q8:tm.length<=maxLen:=by unfold maxLen;omega
     by_cases O:Bo tm=v
     ·have hd:(Bo tm==v)=true:=by simp[O]
      have q7:decide (Bo tm=v)=true:=by simp[O]
      have Y:Hid (GU (DT ys tm) (KS v (ts.drop (m+1))++Eo v (d.atoms.drop (j+1)))=zs):=by show _=_;rw[<-HZ.out,Z.out];simp[KS,hd,GU]
      have f:=Kf ys tm;have hV:=DS tm;have J:=Ao hV;clear hV;rw[O]at J;clear O hd q7;go_wp2_with (first|(go_at_call 94;refine(J.out _).mono ?_;rintro e w' ⟨rfl,rfl⟩)|(go_at_call 107;refine(LU _ sb sb mv lv 178 ys tm (by exact hC) (by exact hS) q8 (by omega) (by decide) (by omega)).mono ?_;rintro e w2 ⟨pp,qq,r,lv',rfl,q4,q5,s⟩));exact⟨⟨m+1,DT ys tm,r,lv',g,by go_num,by omega,Y,q4,q5,s.own p (Av p hC (by decide)) (by decide),x.trans (s.toBelow (by omega)),s.ty _ _ _ (by omega) (by decide) o⟩,by simp[intOf];omega⟩
     ·have l:Bo tm= !v:=by cases e:Bo tm<;>cases v<;>simp_all
      have Y:Hid (GU ys (KS v (ts.drop (m+1))++Eo v (d.atoms.drop (j+1)))=zs):=by show _=_;rw[<-HZ.out,Z.out];simp[KS,l]
      have J:=Ao (DS tm);rw[l]at J;clear O l;cases v
      all_goals
          simp only[Bool.not_false,Bool.not_true]at J;go_wp2_with (go_at_call 94;refine(J.out _).mono ?_;rintro e w' ⟨rfl,rfl⟩);exact⟨⟨m+1,ys,mv,lv,g,by go_num,by omega,Y,hC,hS,p,x,o⟩,by simp[intOf];omega⟩
    ·have E:m=ts.length:=by omega
     have Y:Hid (GU ys (Eo v (d.atoms.drop (j+1)))=zs):=by show _=_;rw[<-HZ.out,E,AR];rfl
     clear E;go_wp2;exact⟨⟨j+1,ys,mv,lv,u,by go_num,by omega,Y,hC,hS,p,x⟩,by simp[intOf];omega⟩
  ·have S:j=d.lits.length+1:=by omega
   have HE:Hid (ys=zs):=by show _=_;rw[<-HX.out,S,<-z.out,AR];rfl
   clear S;go_wp2
   go_end0
   rw[<-HE.out];exact⟨mv,lv,rfl,hC,hS,by omega,x⟩
def DV(d:Bd):List B8:=GU [] (Eo true d.atoms)
def CE(ds:List Bd):List B8:=GU [] (ds.flatMap fun d=>Eo false d.atoms)
theorem Mv(w:World)(base:Nat)(d:Bd)(bo:Option Addr)(bcap:Nat)(r:w.ownsRow base 186 6 (.slice bo d.lits.length bcap) d.lits.length (d.lits.flatMap BQ.cells))(u:d.WF):
 Calls prog 144 #[.agg #[.string d.nm,.int .i64 d.cn,.string (d.t 0),.string (d.t 1),.string (d.t 2),.slice bo d.lits.length bcap]] w fun e w'=>e=.returned (.int .i64 ((DV d).length:Nat))/\(DV d).length<=15/\Below w.heap.size w w':=by
 obtain⟨zs,q⟩:∃zs,Hid (DV d=zs):=⟨_,rfl⟩;rw[q.out];have p:=C9 w (.cells #[.string d.nm,.int .i64 d.cn,.string (d.t 0),.string (d.t 1),.string (d.t 2),.slice bo d.lits.length bcap] 86) [.map none,.slice none 0 0] 178;have y:Cr ((w.alloc (.cells #[.string d.nm,.int .i64 d.cn,.string (d.t 0),.string (d.t 1),.string (d.t 2),.slice bo d.lits.length bcap] 86)).alloc (.cells #[.map none,.slice none 0 0] 178)) (w.heap.size+1) (.map none) (.slice none 0 0) []:=⟨Ak _ _ _ _,.inl ⟨rfl,rfl⟩⟩;have g:=Ao (OW _ base (w.heap.size+1) _ _ [] d bo bcap true p y ((r.alloc _).alloc _) u (by simp));have b:GU [] (Eo true d.atoms)=zs:=q.out;rw[b]at g;clear b;go_enter func144,ntmps144;go_wp2_with (first|(go_at_call 169;refine(g.out).mono ?_;rintro e w1 ⟨mv,lv,rfl,z,k,v,j⟩)|(go_at_call 76;refine(Tm _ (w.heap.size+1) (w.heap.size+1) mv lv [] 178 zs (by exact z) (by exact k)).mono ?_;rintro e w2 ⟨c,q0⟩;subst w2;subst c))
 go_ret
 exact⟨rfl,by simpa using v,((Ac w _).alloc (by simp) _).trans (j.mono (by omega))⟩
theorem Mw(w:World)(base:Nat)(ao:Option Addr)(cap:Nat)(ds:List Bd)(B:AY w base (.slice ao ds.length cap) ds)(hW:∀d∈ds,d.WF)(hn:ds.length<=40):
 Calls prog 142 #[.slice ao ds.length cap] w fun e w'=>e=.returned (.int .i64 ((CE ds).length:Nat))/\(CE ds).length<=600/\Below w.heap.size w w':=by
 obtain⟨zs,u⟩:∃zs,Hid (CE ds=zs):=⟨_,rfl⟩;rw[u.out];go_enter func142,ntmps142;go_wp2_with fail
 go_loopw [8] (fun o wr=>∃(k:Nat) (ys:List B8) (mv lv:Value),k<=ds.length/\o=.int .i64 (k:Nat)/\ys.length<=15*k/\Hid (GU ys ((ds.drop k).flatMap fun d=>Eo false d.atoms)=zs)/\Aw wr w.heap.size [mv,lv] 178/\Cr wr w.heap.size mv lv ys/\Below w.heap.size w wr) (fun o _=>ds.length-(intOf o).toNat)
 case atStart=>exact⟨0,[],.map none,.slice none 0 0,by omega,rfl,by simp,u,Aw.new w [.map none,.slice none 0 0] 178,⟨Ak _ _ _ _,.inl ⟨rfl,rfl⟩⟩,Ac w _⟩
 case round=>
  obtain⟨k,ys,mv,lv,hk,rfl,q3,m,hC,hS,q⟩:=hrel;by_cases j:k<ds.length
  ·obtain⟨g,bo,bcap,f,v,l,Q,J,Z,Y,K,b⟩:=FB B k j;subst f;have c:=hW ds[k] (Aj j);have y:=Aa j;obtain⟨d,hd⟩:∃d,ds[k]=d:=⟨_,rfl⟩;simp only[hd]at l Q J Z Y K b c y;have G:Hid (GU (GU ys (Eo false d.atoms)) ((ds.drop (k+1)).flatMap fun d=>Eo false d.atoms)=zs):=by show _=_;rw[<-m.out,y,Cg];simp[GU]
   clear hd y m;rw[<-q.cell (p:=⟨g,k*6,none⟩) v]at l;rw[<-q.cell (p:=⟨g,k*6+1,none⟩) v]at Q;rw[<-q.cell (p:=⟨g,k*6+2,none⟩) v]at J;rw[<-q.cell (p:=⟨g,k*6+3,none⟩) v]at Z;rw[<-q.cell (p:=⟨g,k*6+4,none⟩) v]at Y;rw[<-q.cell (p:=⟨g,k*6+5,none⟩) v]at K;have q0:=hC.lt;have V:=Ao (OW (wr.alloc (.cells #[.string d.nm,.int .i64 d.cn,.string (d.t 0),.string (d.t 1),.string (d.t 2),.slice bo d.lits.length bcap] 86)) base w.heap.size mv lv ys d bo bcap false (hC.alloc _) (hS.alloc _) ((Ah b q).alloc _) c (by omega));go_wp2_with (go_at_call 169;refine(V.out).mono ?_;rintro e w1 ⟨i,lv',rfl,x,s,q1,n⟩);exact⟨⟨k+1,_,i,lv',j,by go_num,by omega,G,x,s,(q.alloc (by omega) _).trans n⟩,by simp[intOf];omega⟩
  ·have r:k=ds.length:=by omega
   have U:Hid (ys=zs):=by show _=_;rw[<-m.out,r,AR];rfl
   have a:ys.length=zs.length:=by rw[U.out]
   clear r m;have z:=Ao (Tm wr w.heap.size w.heap.size mv lv [] 178 ys hC hS);rw[a]at z;go_wp2_with (go_at_call 76;refine(z.out).mono ?_;rintro e w2 ⟨R,q2⟩;subst w2;subst R)
   go_ret
   exact⟨rfl,by omega,q⟩
end
end Go.Proofs.YtpbfiffgcgnidaaGreatDoor
