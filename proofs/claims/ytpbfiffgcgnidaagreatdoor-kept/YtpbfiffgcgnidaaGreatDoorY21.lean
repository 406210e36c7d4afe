import Derived.Test.YtpbfiffgcgnidaaGreatDoorYal
import Derived.Test.YtpbfiffgcgnidaaGreatDoorY18
import Derived.Test.YtpbfiffgcgnidaaGreatDoorY20
namespace Go.Proofs.YtpbfiffgcgnidaaGreatDoor
set_option maxRecDepth 100000
set_option maxHeartbeats 4000000
set_option linter.unusedSimpArgs false
open Go.Proofs.Tryz
section
attribute [local go_sem] AE As
open Go.RowKit Go.WideMaps Go.Maps
theorem Xk(d:Bd)(h:d.WF):d.shown.length<=400:=by
 have j:=h.words (d.name,d.ts) (by simp[Bd.atoms]);have h1:=Kp d.name d.ts j.1 j.2.1 j.2.2
 have y:∀(ls:List BQ) (i:Nat),(∀l∈ls,l∈d.lits)->(Gm i ls).length<=70*ls.length:=by
  intro ls
  induction ls with
  |nil=>intro i _;simp[Gm]
  |cons a r v=>
   intro i k;have q:=h.words (a.name,a.ts) (by simp only[Bd.atoms,Br,C4];exact .inr ⟨a,k a (by simp),rfl⟩);have h2:=Kp a.name a.ts q.1 q.2.1 q.2.2;have h3:=v (i+1) (fun l z=>k l (by simp[z]))
   have h4:(F9 i a).length<=63:=by
    unfold F9
    split<;>split<;>simp<;>omega
   simp only[Gm,Am,List.length_cons];omega
 have h5:=y d.lits 0 (fun l z=>z);have h6:=h.lits;simp only[Bd.shown,Am,List.length_cons,List.length_nil];omega
theorem N0(w:World)(base:Nat)(ao:Option Addr)(cap:Nat)(ds:List Bd)(U:AY w base (.slice ao ds.length cap) ds)(hW:∀d∈ds,d.WF)(hn:ds.length<=40):
 Calls prog 35 #[.slice ao ds.length cap] w fun e w'=>e=.returned (.string (bs (Er ds)))/\Below w.heap.size w w':=by
 go_enter func35,ntmps35;go_wp2
 go_loopw [8] (fun a wr=>∃(k:Nat),k<=ds.length/\a=.int .i64 k/\(Er (ds.take k)).length<=401*k/\L2 wr w.heap.size w.heap.size (Er (ds.take k))/\Bz w.heap.size w.heap.size [5] w wr) (fun a _=>ds.length-(intOf a).toNat)
 case atStart=>exact⟨0,by omega,rfl,by simp[Er],⟨.pointer none,.slice none 0 0,Aw.new w [.pointer none,.slice none 0 0] 134,.inl rfl,Ak _ _ _ _,Ab _⟩,Bz.alloc _ _ (Ab _)⟩
 case round=>
  obtain⟨k,hk,rfl,q1,hb,i⟩:=hrel;have j:Below w.heap.size w wr:=i.toBelow (Ab _);have q0:=hb.lt;by_cases q:k<ds.length
  ·obtain⟨g,bo,bcap,x,z,Q,J,Z,Y,K,V,m⟩:=FB U k q;subst x;have b:=hW ds[k] (Aj q);have o:=Ao (show Er (ds.take (k+1))=Er (ds.take k)++ds[k].shown++[10] by unfold Er;rw[Ad q,BG,Ca,Bm]);generalize ds[k]=d at*;generalize Er (ds.take k)=acc at*;have q2:=Xk d b;rw[<-j.cell (p:=⟨g,k*6,none⟩) z]at Q;rw[<-j.cell (p:=⟨g,k*6+1,none⟩) z]at J;rw[<-j.cell (p:=⟨g,k*6+2,none⟩) z]at Z;rw[<-j.cell (p:=⟨g,k*6+3,none⟩) z]at Y;rw[<-j.cell (p:=⟨g,k*6+4,none⟩) z]at K;rw[<-j.cell (p:=⟨g,k*6+5,none⟩) z]at V
   have r:Hid (∀W:World,L2 W w.heap.size w.heap.size acc->w.heap.size<=W.heap.size->W.ownsRow base 186 6 (.slice bo d.lits.length bcap) d.lits.length (d.lits.flatMap BQ.cells)->Calls prog 65 #[.pointer (some ⟨w.heap.size,0,none⟩),.agg #[.string d.nm,.int .i64 d.cn,.string (d.t 0),.string (d.t 1),.string (d.t 2),.slice bo d.lits.length bcap]] W fun e w'=>e=.returned (.tuple #[])/\L2 w' w.heap.size w.heap.size (acc++d.shown)/\Bz w.heap.size w.heap.size [5] W w'):=
    fun W h1 h2 h3=>Pz W w.heap.size w.heap.size base acc d bo bcap h1 h2 (by omega) b h3
   go_wp2_with (first|(go_at_call 65;refine(r.out _ (by exact hb.alloc _) (by simp;omega) (by exact(Ah m j).alloc _)).mono ?_;rintro e w1 ⟨rfl,v,y⟩;have f:=y.size)|(go_at_call 66;refine(Ez _ w.heap.size w.heap.size (acc++d.shown) 10 _ rfl (by exact v) (by simp at f;omega) (by simp;omega)).mono ?_;rintro e w2 ⟨rfl,s,n⟩));exact⟨⟨k+1,q,by go_num,by rw[o.out];simp;omega,by rw[o.out];exact s,((i.trans (Bz.alloc _ _ (by omega))).trans y).trans n⟩,by simp[intOf];omega⟩
  ·have u:k=ds.length:=by omega
   have l:=Ao (show Er ds=Er (ds.take k) by rw[u,AL]);clear u;go_wp2_with (go_at_call 67;refine(Tryz.Builder_String_any_k w.heap.size w.heap.size _ _ hb.fz (by omega)).mono ?_;rintro e w1 ⟨rfl,v,c,-⟩)
   go_ret
   rw[l.out];exact⟨rfl,j.trans c⟩
theorem eO(w:World)(base bb:Nat)(ds:List Bd)(h:Dm w base bb ds)(hW:∀d∈ds,d.WF)(hn:ds.length<=40):
 Calls prog 14 #[.pointer (some ⟨bb,0,none⟩)] w fun e w'=>e=.returned (.string (bs (Er ds)))/\Below w.heap.size w w':=by
 obtain⟨v,h1,h2⟩:=h;obtain⟨ao,cap,rfl⟩:=h2.form;have c0:w.cell? ⟨bb,0,none⟩=some (.slice ao ds.length cap):=h1.cell 0;go_enter func14,ntmps14;go_wp2_with (go_at_call 35;refine(N0 _ base ao cap ds (by exact h2) hW hn).mono ?_;rintro e w1 ⟨rfl,q⟩)
 go_ret
 exact⟨rfl,q⟩
def Jz(c:List B8×List Nat)(a:B8×Nat):List B8×List Nat:=if BZ c.1 a.1=true then c else(c.1++[a.1],c.2++[a.2])
def Bd.a7(d:Bd):List (B8×Nat):=d.atoms.map fun a=>(a.1,a.2.length)
def JM(c:List B8×List Nat)(l:List (B8×Nat)):List B8×List Nat:=l.foldl Jz c
def Cv(ds:List Bd):List B8×List Nat:=JM ([],[]) (ds.flatMap Bd.a7)
theorem ZE(d:Bd)(j:Nat)(h:j<d.atoms.length):d.a7.drop j=(d.atoms[j].1,d.atoms[j].2.length)::d.a7.drop (j+1):=by
 have q:j<d.a7.length:=by simpa[Bd.a7]using h
 rw[Aa q];simp[Bd.a7]
theorem OF(w:World)(base:Nat)(ao:Option Addr)(cap:Nat)(ds:List Bd)(hP:AY w base (.slice ao ds.length cap) ds)(hW:∀d∈ds,d.WF)(hn:ds.length<=40):
 Calls prog 105 #[.slice ao ds.length cap] w fun e w'=>∃mv lv cv,e=.returned (.pointer (some ⟨w.heap.size,0,none⟩))/\Aw w' w.heap.size [mv,lv,cv] 180/\ES w' w.heap.size mv lv cv (Cv ds).1 (Cv ds).2/\(Cv ds).1.length<=200/\Below w.heap.size w w':=by
 go_enter func105,ntmps105;go_wp2
 go_loopw [12] (fun i wr=>∃(k:Nat) (xs:List B8) (ns:List Nat) (mv lv cv:Value),k<=ds.length/\i=.int .i64 k/\xs.length<=5*k/\Hid (JM (xs,ns) ((ds.drop k).flatMap Bd.a7)=Cv ds)/\
  Aw wr w.heap.size [mv,lv,cv] 180/\ES wr w.heap.size mv lv cv xs ns/\Below w.heap.size w wr) (fun i _=>ds.length-(intOf i).toNat)
 case atStart=>exact⟨0,[],[],.map none,.slice none 0 0,.slice none 0 0,by omega,rfl,by simp,rfl,Aw.new w zC 180,⟨⟨Ak _ _ _ _,.inl ⟨rfl,rfl⟩⟩,rfl,Ak _ _ _ _⟩,(Ag _ _).alloc (Ab _) _⟩
 case round=>
  obtain⟨k,xs,ns,mv,lv,cv,hk,rfl,M,n,hC,q,y⟩:=hrel;by_cases r:k<ds.length
  ·obtain⟨g,bo,bcap,L,f,h,e1,e2,e3,e4,e5,O⟩:=FB hP k r;subst L;have C:=hW ds[k] (Aj r);have HD:Hid ((ds.drop k).flatMap Bd.a7=ds[k].a7++(ds.drop (k+1)).flatMap Bd.a7):=by show(ds.drop k).flatMap Bd.a7=_;rw[Aa r];rfl
   generalize ds[k]=d at*;have q3:w.heap.size<wr.heap.size:=hC.lt;have q4:=C.lits;rw[<-y.cell (p:=⟨g,k*6,none⟩) f]at h;rw[<-y.cell (p:=⟨g,k*6+1,none⟩) f]at e1;rw[<-y.cell (p:=⟨g,k*6+2,none⟩) f]at e2;rw[<-y.cell (p:=⟨g,k*6+3,none⟩) f]at e3;rw[<-y.cell (p:=⟨g,k*6+4,none⟩) f]at e4;rw[<-y.cell (p:=⟨g,k*6+5,none⟩) f]at e5;have J:Below wr.heap.size wr (wr.alloc (.cells #[Value.string d.nm,.int .i64 d.cn,.string (d.t 0),.string (d.t 1),.string (d.t 2),.slice bo d.lits.length bcap] 86)):=Ac _ _;go_wp2_with (go_at_call 91;refine(LQ _ base d.nm (d.t 0) (d.t 1) (d.t 2) d.cn bo bcap d.name d.ts d.lits rfl (by exact(Ah O y).alloc _) (by omega)).mono ?_;rintro e w1 ⟨E,Q,rfl,x,v⟩);clear h e1 e2 e3 e4 e5;have Z:=(hC.alloc _).below v;have m:=(q.below J).below v;have c:Below w.heap.size w w1:=(y.alloc (by omega) _).trans (v.mono (by simp;omega));clear J hC q y v;simp only[C8]at x;generalize wr.heap.size=R at*
   go_loopw [19] (fun H wr=>∃(j:Nat) (xs:List B8) (ns:List Nat) (mv lv cv:Value),j<=d.lits.length+1/\H=.int .i64 j/\xs.length<=5*k+j/\Hid (JM (xs,ns) (d.a7.drop j++(ds.drop (k+1)).flatMap Bd.a7)=Cv ds)/\
    Aw wr w.heap.size [mv,lv,cv] 180/\ES wr w.heap.size mv lv cv xs ns/\
    wr.ownsRow (R+1) 80 5 (.slice (some ⟨E,0,none⟩) (d.lits.length+1) Q) (d.lits.length+1) (d.atoms.flatMap FF)/\Below w.heap.size w wr) (fun H _=>d.lits.length+1-(intOf H).toNat)
   case atStart=>
    refine⟨0,xs,ns,mv,lv,cv,by omega,rfl,by omega,?_,Z,m,?_,c⟩
    ·show JM (xs,ns) (d.a7.drop 0++_)=Cv ds;rw[<-n.out,HD.out];rfl
    ·exact x
   case round=>
    clear Z m c x n M;obtain⟨j,xs,ns,mv,lv,cv,hj,rfl,M,n,hC,q,N,y⟩:=hrel;have q0:w.heap.size<wr.heap.size:=hC.lt;have I:d.atoms.length=d.lits.length+1:=by simp[Bd.atoms]
    by_cases U:j<d.lits.length+1
    ·obtain⟨a0,X,a2,a3,a4⟩:=KD N I j (by omega);have z:=ZE d j (by omega);have B:=(C.words _ (Aj (show j<d.atoms.length by omega))).1;obtain⟨a,ha⟩:∃a,d.atoms[j]=a:=⟨_,rfl⟩;simp only[ha]at a0 X a2 a3 a4 z B;have o:=Ao z;clear ha z;obtain⟨nm,ts⟩:=a;have q1:wr.cell? ⟨E,j*5,none⟩=some (.string (bs nm)):=a0;have q2:wr.cell? ⟨E,j*5+1,none⟩=some (.int .i64 (ts.length:Nat)):=X;clear a0 X;have P:nm.length<=maxLen:=by unfold maxLen;simp only[]at B;omega
     have b:Below wr.heap.size wr (wr.alloc (.cells #[Value.string (bs nm),.int .i64 (ts.length:Nat),.string (ID (nm,ts) 0),.string (ID (nm,ts) 1),.string (ID (nm,ts) 2)] 80)):=Ac _ _;cases hx:BZ xs nm
     ·have l:Hid (JM (xs++[nm],ns++[ts.length]) (d.a7.drop (j+1)++(ds.drop (k+1)).flatMap Bd.a7)=Cv ds):=by show _=_;rw[<-n.out,o.out];simp[JM,Jz,hx]
      go_wp2_with (go_at_call 92;refine(OA _ w.heap.size w.heap.size mv lv cv xs ns nm ts.length _ _ _ (by exact hC.alloc _) (by exact q.below b) P hx (by omega) (by simp;omega)).mono ?_;rintro e w2 ⟨rfl,W,lv',S,A,Y,K⟩);have s:Below w.heap.size w w2:=(y.trans (b.mono (by omega))).trans (K.toBelow (Ab _));exact⟨⟨j+1,xs++[nm],ns++[ts.length],W,lv',S,U,by go_num,by simp;omega,l,A,Y,K.own (N.alloc _) (Av N hC (by decide)) (by decide),s⟩,by simp[intOf];omega⟩
     ·have l:Hid (JM (xs,ns) (d.a7.drop (j+1)++(ds.drop (k+1)).flatMap Bd.a7)=Cv ds):=by show _=_;rw[<-n.out,o.out];simp[JM,Jz,hx]
      go_wp2_with (go_at_call 92;refine(LJ _ w.heap.size w.heap.size mv lv cv xs ns nm _ _ _ _ (by exact hC.alloc _) (by exact q.below b) P hx).mono ?_;rintro e w2 ⟨rfl,s⟩);have u:=b.trans (s.mono (by simp));exact⟨⟨j+1,xs,ns,mv,lv,cv,U,by go_num,by omega,l,hC.below u,q.below u,Ah N u,y.trans (u.mono (by omega))⟩,by simp[intOf];omega⟩
    ·have V:j=d.lits.length+1:=by omega
     have l:Hid (JM (xs,ns) ((ds.drop (k+1)).flatMap Bd.a7)=Cv ds):=by
      show _=_;rw[<-n.out,V];have:d.a7.drop (d.lits.length+1)=[]:=by apply AA;simp[Bd.a7,Bd.atoms]
      rw[this,List.nil_append]
     clear V;go_wp2;exact⟨⟨k+1,xs,ns,mv,lv,cv,r,by go_num,by omega,l,hC,q,y⟩,by simp[intOf];omega⟩
  ·have G:k=ds.length:=by omega
   have HE:Hid ((xs,ns)=Cv ds):=by show _=_;rw[<-n.out,G,AR];rfl
   clear G;go_wp2
   go_ret
   rw[<-HE.out];exact⟨mv,lv,cv,rfl,hC,q,by simp only[];omega,y⟩
end
end Go.Proofs.YtpbfiffgcgnidaaGreatDoor
