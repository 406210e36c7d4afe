import Derived.Test.YtpbfiffgcgnidaaGreatDoorYal
import Derived.Test.YtpbfiffgcgnidaaGreatDoorY21
namespace Go.Proofs.YtpbfiffgcgnidaaGreatDoor
set_option maxRecDepth 100000
set_option maxHeartbeats 4000000
set_option linter.unusedSimpArgs false
open Go.Proofs.Tryz
section
attribute [local go_sem] AE As
open Go.RowKit Go.WideMaps Go.Maps
def Bd.a8(d:Bd):List B8:=d.atoms.map fun a=>a.1
def Ik(xs:List B8)(l:List B8):List B8:=l.foldl DT xs
def DL(ds:List Bd):List B8:=Ik [] (ds.flatMap Bd.a8)
theorem aH(d:Bd)(j:Nat)(h:j<d.atoms.length):d.a8.drop j=d.atoms[j].1::d.a8.drop (j+1):=by
 have q:j<d.a8.length:=by simpa[Bd.a8]using h
 rw[Aa q];simp[Bd.a8]
theorem XM(w:World)(base:Nat)(ao:Option Addr)(cap:Nat)(ds:List Bd)(hP:AY w base (.slice ao ds.length cap) ds)(hW:∀d∈ds,d.WF)(hn:ds.length<=40):
 Calls prog 74 #[.slice ao ds.length cap] w fun e w'=>∃mv lv,e=.returned (.pointer (some ⟨w.heap.size,0,none⟩))/\Aw w' w.heap.size [mv,lv] 178/\Cr w' w.heap.size mv lv (DL ds)/\(DL ds).length<=200/\Below w.heap.size w w':=by
 go_enter func74,ntmps74;go_wp2
 go_loopw [12] (fun i wr=>∃(k:Nat) (xs:List B8) (mv lv:Value),k<=ds.length/\i=.int .i64 k/\xs.length<=5*k/\Hid (Ik xs ((ds.drop k).flatMap Bd.a8)=DL ds)/\
  Aw wr w.heap.size [mv,lv] 178/\Cr wr w.heap.size mv lv xs/\Below w.heap.size w wr) (fun i _=>ds.length-(intOf i).toNat)
 case atStart=>exact⟨0,[],.map none,.slice none 0 0,by omega,rfl,by simp,rfl,Aw.new w [.map none,.slice none 0 0] 178,⟨Ak _ _ _ _,.inl ⟨rfl,rfl⟩⟩,(Ag _ _).alloc (Ab _) _⟩
 case round=>
  obtain⟨k,xs,mv,lv,hk,rfl,V,m,hC,y,z⟩:=hrel;by_cases u:k<ds.length
  ·obtain⟨g,bo,bcap,E,n,H,W,h,e3,e4,e5,X⟩:=FB hP k u;subst E;have K:=hW ds[k] (Aj u);have HD:Hid ((ds.drop k).flatMap Bd.a8=ds[k].a8++(ds.drop (k+1)).flatMap Bd.a8):=by show(ds.drop k).flatMap Bd.a8=_;rw[Aa u];rfl
   generalize ds[k]=d at*;have q4:w.heap.size<wr.heap.size:=hC.lt;have q5:=K.lits;rw[<-z.cell (p:=⟨g,k*6,none⟩) n]at H;rw[<-z.cell (p:=⟨g,k*6+1,none⟩) n]at W;rw[<-z.cell (p:=⟨g,k*6+2,none⟩) n]at h;rw[<-z.cell (p:=⟨g,k*6+3,none⟩) n]at e3;rw[<-z.cell (p:=⟨g,k*6+4,none⟩) n]at e4;rw[<-z.cell (p:=⟨g,k*6+5,none⟩) n]at e5;have s:Below wr.heap.size wr (wr.alloc (.cells #[Value.string d.nm,.int .i64 d.cn,.string (d.t 0),.string (d.t 1),.string (d.t 2),.slice bo d.lits.length bcap] 86)):=Ac _ _;go_wp2_with (go_at_call 91;refine(LQ _ base d.nm (d.t 0) (d.t 1) (d.t 2) d.cn bo bcap d.name d.ts d.lits rfl (by exact(Ah X z).alloc _) (by omega)).mono ?_;rintro e w1 ⟨P,x,rfl,c,v⟩);clear H W h e3 e4 e5;have f:=(hC.alloc _).below v;have r:=(y.below s).below v;have b:Below w.heap.size w w1:=(z.alloc (by omega) _).trans (v.mono (by simp;omega));clear s hC y z v;simp only[C8]at c;generalize wr.heap.size=R at*
   go_loopw [19] (fun I wr=>∃(j:Nat) (xs:List B8) (mv lv:Value),j<=d.lits.length+1/\I=.int .i64 j/\xs.length<=5*k+j/\Hid (Ik xs (d.a8.drop j++(ds.drop (k+1)).flatMap Bd.a8)=DL ds)/\
    Aw wr w.heap.size [mv,lv] 178/\Cr wr w.heap.size mv lv xs/\
    wr.ownsRow (R+1) 80 5 (.slice (some ⟨P,0,none⟩) (d.lits.length+1) x) (d.lits.length+1) (d.atoms.flatMap FF)/\Below w.heap.size w wr) (fun I _=>d.lits.length+1-(intOf I).toNat)
   case atStart=>
    refine⟨0,xs,mv,lv,by omega,rfl,by omega,?_,f,r,?_,b⟩
    ·show Ik xs (d.a8.drop 0++_)=DL ds;rw[<-m.out,HD.out];rfl
    ·exact c
   case round=>
    clear f r b c m V;obtain⟨j,xs,mv,lv,hj,rfl,V,m,hC,y,C,z⟩:=hrel;have q1:w.heap.size<wr.heap.size:=hC.lt;have S:d.atoms.length=d.lits.length+1:=by simp[Bd.atoms]
    by_cases A:j<d.lits.length+1
    ·obtain⟨a0,B,a2,a3,a4⟩:=KD C S j (by omega);have q:=aH d j (by omega);have Y:=(K.words _ (Aj (show j<d.atoms.length by omega))).1;obtain⟨a,ha⟩:∃a,d.atoms[j]=a:=⟨_,rfl⟩;simp only[ha]at a0 B a2 a3 a4 q Y;have U:=Ao q;clear ha q;obtain⟨nm,ts⟩:=a;have q2:wr.cell? ⟨P,j*5,none⟩=some (.string (bs nm)):=a0;have q3:wr.cell? ⟨P,j*5+1,none⟩=some (.int .i64 (ts.length:Nat)):=B;clear a0 B;have O:nm.length<=maxLen:=by unfold maxLen;simp only[]at Y;omega
     have Q:Below wr.heap.size wr (wr.alloc (.cells #[Value.string (bs nm),.int .i64 (ts.length:Nat),.string (ID (nm,ts) 0),.string (ID (nm,ts) 1),.string (ID (nm,ts) 2)] 80)):=Ac _ _;have G:Hid (Ik (DT xs nm) (d.a8.drop (j+1)++(ds.drop (k+1)).flatMap Bd.a8)=DL ds):=by show _=_;rw[<-m.out,U.out];rfl
     have q0:=Kf xs nm;go_wp2_with (go_at_call 107;refine(LU _ w.heap.size w.heap.size mv lv 178 xs nm (by exact hC.alloc _) (by exact y.below Q) O (by omega) (by decide) (by simp;omega)).mono ?_;rintro e w2 ⟨pp,qq,L,lv',rfl,N,o,l⟩);have M:Below w.heap.size w w2:=(z.trans (Q.mono (by omega))).trans (l.toBelow (Ab _));exact⟨⟨j+1,DT xs nm,L,lv',A,by go_num,by omega,G,N,o,l.own (C.alloc _) (Av C hC (by decide)) (by decide),M⟩,by simp[intOf];omega⟩
    ·have J:j=d.lits.length+1:=by omega
     have G:Hid (Ik xs ((ds.drop (k+1)).flatMap Bd.a8)=DL ds):=by
      show _=_;rw[<-m.out,J];have:d.a8.drop (d.lits.length+1)=[]:=by apply AA;simp[Bd.a8,Bd.atoms]
      rw[this,List.nil_append]
     clear J;go_wp2;exact⟨⟨k+1,xs,mv,lv,u,by go_num,by omega,G,hC,y,z⟩,by simp[intOf];omega⟩
  ·have Z:k=ds.length:=by omega
   have HE:Hid (xs=DL ds):=by show _=_;rw[<-m.out,Z,AR];rfl
   clear Z;go_wp2
   go_ret
   rw[<-HE.out];exact⟨mv,lv,rfl,hC,y,by omega,z⟩
end
end Go.Proofs.YtpbfiffgcgnidaaGreatDoor
