import Derived.Test.YtpbfiffgcgnidaaGreatDoorYal
import Derived.Deep.DeepFit
import Derived.Test.YtpbfiffgcgnidaaGreatDoorY7
namespace Go.Proofs.YtpbfiffgcgnidaaGreatDoor
set_option maxRecDepth 100000
set_option maxHeartbeats 4000000
set_option linter.unusedSimpArgs false
open Go.Proofs.Tryz
section
attribute [local go_sem] AE As
open Go.RowKit Go.WideMaps Go.Maps
def DD(xs:List B8)(ls:List BQ):List B8:=ls.foldl (fun xs l=>DT xs l.name) xs
theorem Bz.mono{base sb:Nat}{T:List TypeId}{w w':World}(h:Bz base sb T w w'){q:List TypeId}(j:∀t,t∈T->t∈q):Bz base sb q w w':=
 ⟨h.os,h.tape,h.output,h.size,h.low,fun k cs t h1 h2 h3=>h.ty k cs t h1 (fun h=>h2 (j t h)) h3⟩
theorem Bz.alloc{base sb:Nat}{T:List TypeId}(w:World)(o:Obj)(hb:base<=w.heap.size):Bz base sb T w (w.alloc o):=Bz.kept (Bg.alloc sb w o) hb
theorem PJ(xs:List B8)(ls:List BQ)(k:Nat)(h:k<ls.length):DD xs (ls.take (k+1))=DT (DD xs (ls.take k)) ls[k].name:=by unfold DD;rw[Ad h,Dd];rfl
theorem YM(w:World)(base base' sb:Nat)(mv lv:Value)(xs:List B8)(n0 t0 t1 t2:ByteArray)(c:Int)(ao:Option Addr)(cap:Nat)(lits:List BQ)
 (hC:Aw w sb [mv,lv] 178)(hS:Cr w base mv lv xs)(f:w.ownsRow base' 186 6 (.slice ao lits.length cap) lits.length (lits.flatMap BQ.cells))(hn:lits.length<=4)(o:∀l∈lits,l.name.length<=12)(hx:xs.length<=10000)(hb:base<=w.heap.size):
 Calls prog 139 #[.pointer (some ⟨sb,0,none⟩),.agg #[.string n0,.int .i64 c,.string t0,.string t1,.string t2,.slice ao lits.length cap]] w fun e w'=>e=.returned (.tuple #[])/\
  ∃z lv',Aw w' sb [z,lv'] 178/\Cr w' base z lv' (DD xs lits)/\Bz base sb [9] w w':=by
 have q0:=hC.lt;go_enter func139,ntmps139;go_wp2
 go_loopw [9] (fun i wr=>∃(k:Nat) (mv lv:Value),k<=lits.length/\i=.int .i64 k/\(DD xs (lits.take k)).length<=xs.length+k/\Aw wr sb [mv,lv] 178/\Cr wr base mv lv (DD xs (lits.take k))/\Bz base sb [9] w wr) (fun i _=>lits.length-(intOf i).toNat)
 case atStart=>exact⟨0,mv,lv,by omega,rfl,by simp[DD],hC.alloc _,hS.alloc _,Bz.alloc _ _ hb⟩
 case round=>
  obtain⟨k,b,g,hk,rfl,q5,y,v,q⟩:=hrel;by_cases j:k<lits.length
  ·obtain⟨g0,rfl,q2,a,e1,e2,e3,e4,e5⟩:=Jq (q.own f (Av f hC (by decide)) (by decide)) k j;have q4:=o lits[k] (Aj j);have s:=Ao (PJ xs lits k j);have u:lits[k].nm=bs lits[k].name:=rfl;rw[u]at a;generalize n:lits[k]=L at*;clear n u;generalize x:DD xs (lits.take k)=ys at*;clear x;have p:base<=wr.heap.size:=by have:=q.size;omega
   have q1:=Kf ys L.name;have q3:sb<wr.heap.size:=y.lt;go_wp2_with (go_at_call 107;refine(LU _ base sb b g 178 ys L.name (by exact y.alloc _) (by exact v.alloc _) (by unfold maxLen;omega) (by omega) (by decide) (by simp;omega)).mono ?_;rintro e w2 ⟨pp,qq,z,lv',rfl,d,t,r⟩);exact⟨⟨k+1,z,lv',j,by go_num,by rw[s.out];omega,d,by rw[s.out];exact t,(q.trans (Bz.alloc _ _ p)).trans r⟩,by simp[intOf];omega⟩
  ·have m:k=lits.length:=by omega
   go_wp2
   go_end0
   subst m;rw[AL]at v;exact⟨rfl,b,g,y,v,q⟩
def Da(ds:List Bd)(nm:B8)(xs:List B8):List B8:=ds.foldl (fun xs d=>if d.name=nm then DD xs d.lits else xs) xs
def Gh(ds:List Bd):Nat->Nat->List B8->List B8
 |0,_,xs=>xs
 |f+1,i,xs=>if i<xs.length then Gh ds f (i+1) (Da ds (xs.getD i []) xs) else xs
def Eb(ds:List Bd)(nm:B8):List B8:=nm::ds.flatMap fun d=>d.lits.map fun l=>l.name
def D8(ds:List Bd)(nm:B8):List B8:=Gh ds (Eb ds nm).length 0 [nm]
theorem cW{xs U:List B8}{k:B8}(h:∀x∈xs,x∈U)(q:k∈U):∀x∈DT xs k,x∈U:=by
 unfold DT;split
 ·exact h
 ·intro x hx;simp at hx;rcases hx with hx|rfl
  ·exact h x hx
  ·exact q
theorem OV{xs:List B8}{k:B8}(h:xs.Nodup):(DT xs k).Nodup:=by
 unfold DT;split
 ·exact h
 ·next hx=>
  have j:k∉xs:=by simpa[BZ]using hx
  rw[L7];exact⟨h,by simp,by intro a q b hb;simp at hb;subst hb;intro e;exact j (e▸q)⟩
theorem cX(xs:List B8)(k:B8):xs<+:DT xs k:=by unfold DT;split<;>simp
theorem RZ(U:List B8)(ls:List BQ)(xs:List B8)(q:∀l∈ls,l.name∈U)(h:xs.Nodup/\∀x∈xs,x∈U):((DD xs ls).Nodup/\∀x∈DD xs ls,x∈U)/\xs<+:DD xs ls:=by
 induction ls generalizing xs with
 |nil=>exact⟨h,By _⟩
 |cons l ls z=>have:=z (DT xs l.name) (fun l' j=>q l' (by simp[j])) ⟨OV h.1,cW h.2 (q l (by simp))⟩;exact⟨this.1,(cX xs l.name).trans this.2⟩
theorem Jn(U:List B8)(ds:List Bd)(nm:B8)(xs:List B8)(z:∀d∈ds,∀l∈d.lits,l.name∈U)(h:xs.Nodup/\∀x∈xs,x∈U):((Da ds nm xs).Nodup/\∀x∈Da ds nm xs,x∈U)/\xs<+:Da ds nm xs:=by
 induction ds generalizing xs with
 |nil=>exact⟨h,By _⟩
 |cons d ds y=>
  unfold Da;rw[List.foldl_cons];by_cases hd:d.name=nm
  ·rw[Ai hd];have h1:=RZ U d.lits xs (z d (by simp)) h;have h2:=y (DD xs d.lits) (fun q j=>z q (by simp[j])) h1.1;exact⟨h2.1,h1.2.trans h2.2⟩
  ·rw[Af hd];exact y xs (fun q j=>z q (by simp[j])) h
theorem QR{xs U:List B8}(h:xs.Nodup)(hs:∀x∈xs,x∈U):xs.length<=U.length:=h.length_le_of_subset hs
theorem RY(ds:List Bd)(nm:B8)(hn:ds.length<=40)(hW:∀d∈ds,d.WF):(Eb ds nm).length<=161:=by
 have q:∀ds:List Bd,(∀d∈ds,d.WF)->(ds.flatMap fun d=>d.lits.map fun l=>l.name).length<=4*ds.length:=by
  intro ds
  induction ds with
  |nil=>intro _;simp
  |cons d ds z=>intro h;have h1:=(h d (by simp)).lits;have h2:=z (fun j hd=>h j (by simp[hd]));simp only[Cg,Am,AK,List.length_cons];omega
 have:=q ds hW;simp only[Eb,List.length_cons];omega
theorem ZV(ds:List Bd)(nm:B8):∀d∈ds,∀l∈d.lits,l.name∈Eb ds nm:=by intro d hd l q;simp only[Eb,Br,C5,C4];exact .inr ⟨d,hd,l,q,rfl⟩
theorem PB(ds:List Bd)(nm:B8)(xs:List B8)(k:Nat)(h:k<ds.length):Da (ds.take (k+1)) nm xs=if ds[k].name=nm then DD (Da (ds.take k) nm xs) ds[k].lits else Da (ds.take k) nm xs:=by unfold Da;rw[Ad h,Dd];rfl
theorem lA(a b:B8):((bs a).toList==(bs b).toList)=decide (a=b):=by rw[Fm,Fm];by_cases h:a=b<;>simp[bs,h]
theorem gY{xs ys:List B8}(h:xs<+:ys)(i:Nat)(q:i<xs.length):lC ys i=bs (xs.getD i []):=by obtain⟨r,rfl⟩:=h;simp[lC,AU q]
theorem eZ(w:World)(base:Nat)(ao:Option Addr)(cap:Nat)(ds:List Bd)(nm:B8)(hP:DG w base (.slice ao ds.length cap) ds)(hW:∀d∈ds,d.WF)(hn:ds.length<=40)(q4:nm.length<=12):
 Calls prog 96 #[.slice ao ds.length cap,.string (bs nm)] w fun e w'=>∃tb mv lv,e=.returned (.pointer (some ⟨tb,0,none⟩))/\w.heap.size<=tb/\
  Aw w' tb [mv,lv] 178/\Cr w' w.heap.size mv lv (D8 ds nm)/\Below w.heap.size w w':=by
 obtain⟨U,M⟩:∃U,Hid (U=Eb ds nm):=⟨_,rfl⟩;have hU:U.length<=161:=by rw[M.out];exact RY ds nm hn hW
 have V:∀d∈ds,∀l∈d.lits,l.name∈U:=by rw[M.out];exact ZV ds nm
 have W:nm∈U:=by rw[M.out];simp[Eb]
 have Q:=Aw.new w [.map none,.slice none 0 0] 178;have Z:Cr (w.alloc (.cells #[.map none,.slice none 0 0] 178)) w.heap.size (.map none) (.slice none 0 0) []:=⟨Ak _ _ _ _,.inl ⟨rfl,rfl⟩⟩;go_enter func96,ntmps96;go_wp2_with (go_at_call 107;refine(LU _ w.heap.size w.heap.size (.map none) (.slice none 0 0) 178 [] nm (by exact Q) (by exact Z) (by unfold maxLen;omega) (by simp) (by decide) (by simp)).mono ?_;rintro e w1 ⟨pp,qq,C,P,rfl,J,r,Y⟩);have r:Cr w1 w.heap.size C P [nm]:=r;have o:Below w.heap.size w w1:=(Ac w _).trans (Y.toBelow (Ab _));clear Q Z Y
 go_loopw [6] (fun iv wr=>∃(i:Nat) (xs:List B8) (mv lv:Value),iv=.int .i64 i/\i<=xs.length/\(xs.Nodup/\∀x∈xs,x∈U)/\Hid (Gh ds (U.length-i) i xs=D8 ds nm)/\Aw wr w.heap.size [mv,lv] 178/\Cr wr w.heap.size mv lv xs/\Below w.heap.size w wr) (fun iv _=>U.length-(intOf iv).toNat)
 case atStart=>refine⟨0,[nm],C,P,rfl,by simp,⟨by simp,by simpa using W⟩,?_,J,r,o⟩;show _=_;rw[M.out];rfl
 case round=>
  clear J r o;obtain⟨i,xs,mv,lv,rfl,hi,z,HX,hC,hS,j⟩:=hrel;have q5:=QR z.1 z.2;by_cases n:i<xs.length
  ·have HG:Hid (Gh ds (U.length-(i+1)) (i+1) (Da ds (xs.getD i []) xs)=D8 ds nm):=by show _=_;rw[<-HX.out,show U.length-i=(U.length-(i+1))+1 by omega,Gh,Ai n]
   obtain⟨cur,u⟩:∃cur,xs.getD i []=cur:=⟨_,rfl⟩;rw[u]at HG;have N:=Ao u;clear u;go_wp2_with (go_at_call 76;refine(Tm _ w.heap.size w.heap.size mv lv [] 178 xs (by exact hC) (by exact hS)).mono ?_;rintro e w' ⟨rfl,rfl⟩)
   go_loopw [22] (fun kv wq=>∃(k:Nat) (mv lv:Value),k<=ds.length/\kv=.int .i64 k/\Aw wq w.heap.size [mv,lv] 178/\Cr wq w.heap.size mv lv (Da (ds.take k) cur xs)/\Below w.heap.size w wq) (fun kv _=>ds.length-(intOf kv).toNat)
   case atStart=>exact⟨0,mv,lv,by omega,rfl,hC,hS,j⟩
   case round=>
    clear hC hS j;obtain⟨k,mv,lv,hk,rfl,hC,hS,j⟩:=hrel;by_cases b:k<ds.length
    ·obtain⟨g,bo,bcap,so,scap,rfl,m,e0,e1,e2,e3,e4,e5,e6,S,q2⟩:=IZ hP k b;have B:=hW ds[k] (Aj b);have q:=Jn U (ds.take k) cur xs (fun d hd=>V d (Dy hd)) z;have a:=Ao (PB ds cur xs k b);have c:ds[k].nm=bs ds[k].name:=rfl;rw[c]at e0;generalize I:ds[k]=d at*;clear I c;have q0:=QR q.1.1 q.1.2;have G:=q.2.length_le;have s:=Ao (gY q.2 i n);obtain⟨ys,R⟩:∃ys,Da (ds.take k) cur xs=ys:=⟨_,rfl⟩;rw[R]at hS a q0 G s;clear R;have q3:w.heap.size<wr.heap.size:=hC.lt;have H:=B.lits;have h:∀l∈d.lits,l.name.length<=12:=by intro l hl;exact(B.words (l.name,l.ts) (by simp only[Bd.atoms,Br,C4];exact .inr ⟨l,hl,rfl⟩)).1
     rw[<-j.cell (p:=⟨g,k*7,none⟩) m]at e0;rw[<-j.cell (p:=⟨g,k*7+1,none⟩) m]at e1;rw[<-j.cell (p:=⟨g,k*7+2,none⟩) m]at e2;rw[<-j.cell (p:=⟨g,k*7+3,none⟩) m]at e3;rw[<-j.cell (p:=⟨g,k*7+4,none⟩) m]at e4;rw[<-j.cell (p:=⟨g,k*7+5,none⟩) m]at e5;rw[<-j.cell (p:=⟨g,k*7+6,none⟩) m]at e6;have O:=Aw.new wr [Value.string (bs d.name),.int .i64 d.cn,.string (d.t 0),.string (d.t 1),.string (d.t 2),.slice bo d.lits.length bcap,.slice so d.ah.length scap] 117;obtain⟨f0,f1,f2,f3,f4,f5,f6⟩:=O.c7;have v:=lA d.name cur;rw[<-N.out,<-s.out]at v;by_cases y:d.name=cur
     ·have L:((bs d.name).toList==(lC ys i).toList)=true:=by rw[v,N.out];simp[y]
      rw[Ai y]at a;clear y v;go_wp2_with fail
      go_quiet ((go_at_call 138;exact Calls.quiet_of_same (mU _ w.heap.size w.heap.size mv lv [] 178 ys (by exact hC.alloc _) (by exact hS.alloc _) i (by omega))))
      go_wp2_with (go_at_call 139;refine(YM _ w.heap.size base w.heap.size mv lv ys _ _ _ _ _ bo bcap d.lits (by exact(hC.alloc _).drewN _) (by exact(hS.alloc _).drewN _) (by exact(Ah S j).alloc _) H h (by omega) (by simp;omega)).mono ?_;rintro e w2 ⟨rfl,q1,lv',X,E,A⟩);exact⟨⟨k+1,q1,lv',b,by go_num,X,by rw[a.out];exact E,(UD (j.alloc (by omega) _) _).trans (A.toBelow (Ab _))⟩,by simp[intOf];omega⟩
     ·have L:((bs d.name).toList==(lC ys i).toList)=false:=by rw[v,N.out];simp[y]
      rw[Af y]at a;clear y v;go_wp2_with fail
      go_quiet ((go_at_call 138;exact Calls.quiet_of_same (mU _ w.heap.size w.heap.size mv lv [] 178 ys (by exact hC.alloc _) (by exact hS.alloc _) i (by omega))))
      go_wp2_with fail;exact⟨⟨k+1,mv,lv,b,by go_num,(hC.alloc _).drewN _,by rw[a.out];exact(hS.alloc _).drewN _,UD (j.alloc (by omega) _) _⟩,by simp[intOf];omega⟩
    ·have K:k=ds.length:=by omega
     have HK:Hid (Da (ds.take k) cur xs=Da ds cur xs):=by show _=_;rw[K,AL]
     clear K;have q:=Jn U ds cur xs V z;have G:=q.2.length_le;rw[HK.out]at hS;go_wp2;exact⟨⟨i+1,Da ds cur xs,mv,lv,by go_num,by omega,q.1,HG,hC,hS,j⟩,by simp[intOf];omega⟩
  ·have HE:Hid (D8 ds nm=xs):=by
    show _=_;rw[<-HX.out]
    cases U.length-i with
    |zero=>rfl
    |succ f=>rw[Gh,Af n]
   go_wp2_with (go_at_call 76;refine(Tm _ w.heap.size w.heap.size mv lv [] 178 xs (by exact hC) (by exact hS)).mono ?_;rintro e w' ⟨rfl,rfl⟩)
   go_ret
   rw[HE.out];exact⟨_,mv,lv,rfl,Ab _,hC,hS,j⟩
def Fq(safe:List B8)(ps:List Nat):Nat->List B8->Option Nat
 |_,[]=>none
 |k,t::r=>if(Bo t&& !BZ safe t)=true then some (ps.getD k 0) else Fq safe ps (k+1) r
def Fs(safe:List B8):List ((B8×List B8)×Dg)->Option Nat
 |[]=>none
 |(a,sp)::r=>(Fq safe sp.ps 0 a.2).or (Fs safe r)
def EB:List Bd->Option Nat
 |[]=>none
 |d::r=>(Fs (PA d.lits) (d.atoms.zip d.ah)).or (EB r)
theorem Va(w:World)(base:Nat)(ao:Option Addr)(cap:Nat)(ds:List Bd)(hP:DG w base (.slice ao ds.length cap) ds)(hW:∀d∈ds,d.WF)(hn:ds.length<=40):
 Calls prog 59 #[.slice ao ds.length cap] w fun e w'=>e=.returned (G8 (EB ds))/\Below w.heap.size w w':=by
 go_enter func59,ntmps59;go_wp2
 go_loopw [13] (fun i wr=>∃(k:Nat),k<=ds.length/\i=.int .i64 k/\Hid (EB (ds.drop k)=EB ds)/\Below w.heap.size w wr) (fun i _=>ds.length-(intOf i).toNat)
 case atStart=>exact⟨0,by omega,rfl,rfl,Ag _ _⟩
 case round=>
  obtain⟨k,hk,rfl,HX,r⟩:=hrel;by_cases Z:k<ds.length
  ·obtain⟨g,bo,bcap,so,scap,rfl,N,e0,e1,e2,e3,e4,e5,e6,j4,j5⟩:=IZ hP k Z;have b:=hW ds[k] (Aj Z);have HD:Hid (EB (ds.drop k)=(Fs (PA ds[k].lits) (ds[k].atoms.zip ds[k].ah)).or (EB (ds.drop (k+1)))):=by show EB (ds.drop k)=_;rw[Aa Z];rfl
   generalize j7:ds[k]=d at*;clear j7;have z4:w.heap.size<=wr.heap.size:=r.size;have j9:=b.lits;have Q:=Ao b.ah;rw[<-r.cell (p:=⟨g,k*7,none⟩) N]at e0;rw[<-r.cell (p:=⟨g,k*7+1,none⟩) N]at e1;rw[<-r.cell (p:=⟨g,k*7+2,none⟩) N]at e2;rw[<-r.cell (p:=⟨g,k*7+3,none⟩) N]at e3;rw[<-r.cell (p:=⟨g,k*7+4,none⟩) N]at e4;rw[<-r.cell (p:=⟨g,k*7+5,none⟩) N]at e5;rw[<-r.cell (p:=⟨g,k*7+6,none⟩) N]at e6;have K:=Aw.new wr [Value.string d.nm,.int .i64 d.cn,.string (d.t 0),.string (d.t 1),.string (d.t 2),.slice bo d.lits.length bcap,.slice so d.ah.length scap] 117;have B:=(Ah j4 r).alloc (.cells #[Value.string d.nm,.int .i64 d.cn,.string (d.t 0),.string (d.t 1),.string (d.t 2),.slice bo d.lits.length bcap,.slice so d.ah.length scap] 117);have z3:∀l∈d.lits,l.ts.length<=3/\∀t∈l.ts,t.length<=12:=by intro l hl;exact(b.words (l.name,l.ts) (by simp only[Bd.atoms,Br,C4];exact .inr ⟨l,hl,rfl⟩)).2
   go_wp2_with (first|(go_at_call 93;refine(Nh _ base _ _ _ _ _ bo bcap d.lits (by exact B) j9 z3).mono ?_;rintro e w1 ⟨tb,mv,lv,rfl,z2,O,H,c⟩;have s:=K.below c;have f0:=s.c7;obtain⟨f0,f1,f2,f3,f4,f5,f6⟩:=f0;have L:=Ah B c)|(go_at_call 91;refine(LQ _ base d.nm (d.t 0) (d.t 1) (d.t 2) d.cn bo bcap d.name d.ts d.lits rfl (by exact L) (by omega)).mono ?_;rintro e w2 ⟨ga,A,rfl,J,n⟩));clear e0 e1 e2 e3 e4 e5 e6 f0 f1 f2 f3 f4 f5 f6;have j3:=O.below n;have P:=H.below n;have q2:=s.below n;have z:Below w.heap.size w w2:=((r.alloc (by omega) _).trans (c.mono (by simp;omega))).trans (n.mono (by have:=c.size;simp at this;omega));clear K s B L O H r c n;simp only[C8]at J P z2;generalize wr.heap.size=R at*;generalize w1.heap.size=R1 at*;have E:Hid ((d.atoms.zip d.ah).length=d.lits.length+1):=by show(d.atoms.zip d.ah).length=_;simp[Bd.atoms,b.ah]
   have q1:d.atoms.length=d.lits.length+1:=by simp[Bd.atoms]
   have o:=Ao q1;clear q1;have J:w2.ownsRow R1 80 5 (.slice (some ⟨ga,0,none⟩) (d.lits.length+1) A) (d.lits.length+1) (d.atoms.flatMap FF):=J;obtain⟨safe,j0⟩:∃safe,Hid (safe=PA d.lits):=⟨_,rfl⟩;rw[<-j0.out]at P HD
   go_loopw [24] (fun jv wq=>∃(j:Nat),j<=d.lits.length+1/\jv=.int .i64 j/\Hid ((Fs safe ((d.atoms.zip d.ah).drop j)).or (EB (ds.drop (k+1)))=EB ds)/\Below w2.heap.size w2 wq) (fun jv _=>d.lits.length+1-(intOf jv).toNat)
   case atStart=>refine⟨0,by omega,rfl,?_,Ag _ _⟩;show _=_;rw[<-HX.out,HD.out];rfl
   case round=>
    obtain⟨j,hj,rfl,HY,x⟩:=hrel;by_cases v:j<d.lits.length+1
    ·obtain⟨a0,a1,a2,a3,a4⟩:=KD (Ah J x) o.out j (by rw[o.out];exact v);have X:=b.words _ (Aj (show j<d.atoms.length by rw[o.out];exact v));have y:=Aa (show j<(d.atoms.zip d.ah).length by rw[E.out];exact v);rw[dT]at y;obtain⟨gs,rfl,j8,s0,s1,s2,s3,s4⟩:=QW j5 j (by rw[Q.out];exact v);have z0:=b.places _ (Aj (show j<d.ah.length by rw[Q.out];exact v));obtain⟨a,ha⟩:∃a,d.atoms[j]'(by rw[o.out];exact v)=a:=⟨_,rfl⟩;obtain⟨sp,q6⟩:∃sp,d.ah[j]'(by rw[Q.out];exact v)=sp:=⟨_,rfl⟩;simp only[ha,q6]at a0 a1 a2 a3 a4 y X s0 s1 s2 s3 s4 z0;have q9:=Ao y;clear ha q6 y s0 s1;obtain⟨nm,ts⟩:=a;have j1:wr.cell? ⟨ga,j*5,none⟩=some (.string (bs nm)):=a0;have j2:wr.cell? ⟨ga,j*5+1,none⟩=some (.int .i64 (ts.length:Nat)):=a1;clear a0 a1;have h3:ts.length<=3:=X.2.1;have z5:j<d.ah.length:=by rw[Q.out];exact v
     have z1:=fun W:World=>NO ts.length h3 wr.heap.size 2 W;have V:=Aw.new wr [Value.string (bs nm),.int .i64 (ts.length:Nat),.string (ID (nm,ts) 0),.string (ID (nm,ts) 1),.string (ID (nm,ts) 2)] 80;have j6:w2.heap.size<=wr.heap.size:=x.size;have Y:=x.alloc j6 (.cells #[Value.string (bs nm),.int .i64 (ts.length:Nat),.string (ID (nm,ts) 0),.string (ID (nm,ts) 1),.string (ID (nm,ts) 2)] 80);go_wp2_with fail;clear j1 j2 a2 a3 a4 z1 x;generalize wr.heap.size=AB at*
     go_loopw [34] (fun S wz=>∃(m:Nat),m<=ts.length/\S=.int .i64 m/\Hid ((Fq safe sp.ps m (ts.drop m)).or ((Fs safe ((d.atoms.zip d.ah).drop (j+1))).or (EB (ds.drop (k+1))))=EB ds)/\Below w2.heap.size w2 wz/\
      Aw wz AB [.string (bs nm),.int .i64 (ts.length:Nat),.string (ID (nm,ts) 0),.string (ID (nm,ts) 1),.string (ID (nm,ts) 2)] 80) (fun S _=>ts.length-(intOf S).toNat)
     case atStart=>refine⟨0,by omega,rfl,?_,Y,V⟩;show _=_;rw[<-HY.out,q9.out];simp only[Fs,B4,Option.or_assoc]
     case round=>
      clear V Y;obtain⟨m,hm,rfl,HZ,u,C⟩:=hrel;by_cases f:m<ts.length
      ·have q8:=X.2.2 ts[m] (Aj f);have M:=Aa f
       have b0:wr.cell? ⟨AB,2+m,none⟩=some (.string (bs ts[m])):=by
           rw[C.cell];have h:m=0\/m=1\/m=2:=by omega
           rcases h with rfl|rfl|rfl<;>simp[ID,f]
       obtain⟨tm,q7⟩:∃tm,ts[m]=tm:=⟨_,rfl⟩;rw[q7]at b0 q8 M;have U:=Ao M;clear q7 M;have I:=j3.below u;have q0:=P.below u;have q3:=q2.below u;obtain⟨f0,f1,f2,f3,f4,f5,f6⟩:=q3.c7;have q5:tm.length<=maxLen:=by unfold maxLen;omega
       cases hv:Bo tm
       ·have G:Hid ((Fq safe sp.ps (m+1) (ts.drop (m+1))).or ((Fs safe ((d.atoms.zip d.ah).drop (j+1))).or (EB (ds.drop (k+1))))=EB ds):=by show _=_;rw[<-HZ.out,U.out];simp[Fq,hv]
        go_wp2_with (go_at_call 94;refine(DS _ _).mono ?_;rintro e w' ⟨rfl,rfl⟩);exact⟨⟨m+1,f,by go_num,G,u,C⟩,by simp[intOf];omega⟩
       ·cases hh:BZ safe tm
        ·have HE:Hid (EB ds=some (sp.ps.getD m 0)):=by show _=_;rw[<-HZ.out,U.out];simp[Fq,hv,hh]
         have s5:wr.cell? ⟨gs,j*5+2+m,none⟩=some (.int .i64 (sp.ps.getD m 0:Nat)):=by
             rw[u.cell (p:=⟨gs,j*5+2+m,none⟩) (by have:=z.size;simp only[];omega),z.cell (p:=⟨gs,j*5+2+m,none⟩) j8];have h:m=0\/m=1\/m=2:=by omega
             rcases h with rfl|rfl|rfl
             ·exact s2
             ·exact s3
             ·exact s4
         have z7:m<3:=by omega
         obtain⟨q,hq⟩:∃q:Nat,sp.ps.getD m 0=q:=⟨_,rfl⟩;rw[hq]at s5 HE;clear hq;go_wp2_with (first|(go_at_call 94;refine(DS _ _).mono ?_;rintro e w' ⟨rfl,rfl⟩)|(go_at_call 95;refine(aI _ (R+1) tb mv lv [] 178 safe tm (by exact I) (by exact q0) q5).mono ?_;rintro e w' ⟨rfl,rfl⟩));go_ret2;rw[HE.out];exact⟨rfl,z.trans (u.mono (by have:=z.size;omega))⟩
        ·have G:Hid ((Fq safe sp.ps (m+1) (ts.drop (m+1))).or ((Fs safe ((d.atoms.zip d.ah).drop (j+1))).or (EB (ds.drop (k+1))))=EB ds):=by show _=_;rw[<-HZ.out,U.out];simp[Fq,hv,hh]
         go_wp2_with (first|(go_at_call 94;refine(DS _ _).mono ?_;rintro e w' ⟨rfl,rfl⟩)|(go_at_call 95;refine(aI _ (R+1) tb mv lv [] 178 safe tm (by exact I) (by exact q0) q5).mono ?_;rintro e w' ⟨rfl,rfl⟩));exact⟨⟨m+1,f,by go_num,G,u,C⟩,by simp[intOf];omega⟩
      ·have G:Hid ((Fs safe ((d.atoms.zip d.ah).drop (j+1))).or (EB (ds.drop (k+1)))=EB ds):=by show _=_;rw[<-HZ.out,show ts.drop m=[] from Ex (by omega)];simp[Fq]
       go_wp2;exact⟨⟨j+1,v,by go_num,G,u⟩,by simp[intOf];omega⟩
    ·have G:Hid (EB (ds.drop (k+1))=EB ds):=by show _=_;rw[<-HY.out,show(d.atoms.zip d.ah).drop j=[] from Ex (by rw[E.out];omega)];simp[Fs]
     go_wp2;exact⟨⟨k+1,Z,by go_num,G,z.trans (x.mono (by have:=z.size;omega))⟩,by simp[intOf];omega⟩
  ·have q4:k=ds.length:=by omega
   have HE:Hid (EB ds=none):=by show EB ds=none;rw[<-HX.out,q4,AR];rfl
   clear q4;go_wp2;go_ret2;rw[HE.out];exact⟨rfl,r⟩
def FQ(ds:List Bd)(d:Bd):Nat->List BQ->Option Nat
 |_,[]=>none
 |i,l::r=>if(l.neg&&BZ (D8 ds l.name) d.name)=true then some ((d.ah.map fun s=>s.mark).getD (1+i) 0) else FQ ds d (i+1) r
def JJ(ds:List Bd):List Bd->Option Nat
 |[]=>none
 |d::r=>(FQ ds d 0 d.lits).or (JJ ds r)
def Fz(ds:List Bd):Option Nat:=JJ ds ds
theorem D3.below{w w':World}{base:Nat}{d:Bd}{cs:List Value}(h:D3 w base d cs)(hb:Below w.heap.size w w'):D3 w' base d cs:=by obtain⟨q,sv,hc,j,hs⟩:=h;exact⟨q,sv,hc,Ah j hb,Ah hs hb⟩
theorem DG.below{w w':World}{base:Nat}{v:Value}{ds:List Bd}(h:DG w base v ds)(hb:Below w.heap.size w w'):DG w' base v ds:=by obtain⟨rows,j,q,z⟩:=h;exact⟨rows,Ah j hb,q,fun i d cs hd hc=>(z i d cs hd hc).below hb⟩
theorem To(w:World)(base:Nat)(ao:Option Addr)(cap:Nat)(ds:List Bd)(hP:DG w base (.slice ao ds.length cap) ds)(hW:∀d∈ds,d.WF)(hn:ds.length<=40):
 Calls prog 60 #[.slice ao ds.length cap] w fun e w'=>e=.returned (G8 (Fz ds))/\Below w.heap.size w w':=by
 go_enter func60,ntmps60;go_wp2
 go_loopw [10] (fun i wr=>∃(k:Nat),k<=ds.length/\i=.int .i64 k/\Hid (JJ ds (ds.drop k)=Fz ds)/\Below w.heap.size w wr) (fun i _=>ds.length-(intOf i).toNat)
 case atStart=>exact⟨0,by omega,rfl,rfl,Ag _ _⟩
 case round=>
  obtain⟨k,hk,rfl,HX,z⟩:=hrel;by_cases r:k<ds.length
  ·obtain⟨g,bo,bcap,so,scap,a,o,N,e1,e2,e3,e4,e5,e6,S,A⟩:=IZ hP k r;subst a;have c:=hW ds[k] (Aj r);have HD:Hid (JJ ds (ds.drop k)=(FQ ds ds[k] 0 ds[k].lits).or (JJ ds (ds.drop (k+1)))):=by show JJ ds (ds.drop k)=_;rw[Aa r];rfl
   have s:ds[k].nm=bs ds[k].name:=rfl;rw[s]at N;generalize I:ds[k]=d at*;clear I s;have O:w.heap.size<=wr.heap.size:=z.size;have q3:=c.lits;have M:=Ao c.ah;have q1:=(c.words (d.name,d.ts) (by simp[Bd.atoms])).1;rw[<-z.cell (p:=⟨g,k*7,none⟩) o]at N;rw[<-z.cell (p:=⟨g,k*7+1,none⟩) o]at e1;rw[<-z.cell (p:=⟨g,k*7+2,none⟩) o]at e2;rw[<-z.cell (p:=⟨g,k*7+3,none⟩) o]at e3;rw[<-z.cell (p:=⟨g,k*7+4,none⟩) o]at e4;rw[<-z.cell (p:=⟨g,k*7+5,none⟩) o]at e5;rw[<-z.cell (p:=⟨g,k*7+6,none⟩) o]at e6;have m:=Aw.new wr [Value.string (bs d.name),.int .i64 d.cn,.string (d.t 0),.string (d.t 1),.string (d.t 2),.slice bo d.lits.length bcap,.slice so d.ah.length scap] 117;have Q:=z.alloc O (.cells #[Value.string (bs d.name),.int .i64 d.cn,.string (d.t 0),.string (d.t 1),.string (d.t 2),.slice bo d.lits.length bcap,.slice so d.ah.length scap] 117);go_wp2_with fail;clear N e1 e2 e3 e4 e5 e6 z;generalize wr.heap.size=R at*
   go_loopw [18] (fun jv wq=>∃(j:Nat),j<=d.lits.length/\jv=.int .i64 j/\Hid ((FQ ds d j (d.lits.drop j)).or (JJ ds (ds.drop (k+1)))=Fz ds)/\Aw wq R [Value.string (bs d.name),.int .i64 d.cn,.string (d.t 0),.string (d.t 1),.string (d.t 2),.slice bo d.lits.length bcap,.slice so d.ah.length scap] 117/\Below w.heap.size w wq) (fun jv _=>d.lits.length-(intOf jv).toNat)
   case atStart=>refine⟨0,by omega,rfl,?_,m,Q⟩;show _=_;rw[<-HX.out,HD.out];rfl
   case round=>
    clear m Q;obtain⟨j,hj,rfl,C,y,z⟩:=hrel;have K:R<wr.heap.size:=y.lt;have v:w.heap.size<=wr.heap.size:=z.size;by_cases b:j<d.lits.length
    ·obtain⟨g0,a,q2,l0,l1,l2,l3,l4,l5⟩:=Jq (Ah S z) j b;subst a;have V:=Aa b;have q4:=(c.words (d.lits[j].name,d.lits[j].ts) (by simp only[Bd.atoms,Br,C4];exact .inr ⟨d.lits[j],Aj b,rfl⟩)).1;have x:d.lits[j].nm=bs d.lits[j].name:=rfl;rw[x]at l0;generalize W:d.lits[j]=L at*;have f:=Ao V;clear W x V;have B:=Aw.new wr [Value.string (bs L.name),.int .i64 L.cn,.string (L.t 0),.string (L.t 1),.string (L.t 2),.bool L.neg] 186;cases hng:L.neg
     ·have l:Hid ((FQ ds d (j+1) (d.lits.drop (j+1))).or (JJ ds (ds.drop (k+1)))=Fz ds):=by show _=_;rw[<-C.out,f.out];simp[FQ,hng]
      rw[hng]at l5;go_wp2_with fail;exact⟨⟨j+1,b,by go_num,l,y.alloc _,z.alloc v _⟩,by simp[intOf];omega⟩
     ·rw[hng]at l5 B;obtain⟨f0,f1,f2,f3,f4,f5,f6⟩:=y.c7;have h:R<wr.heap.size+1:=by omega
      have Y:=(hP.below z).alloc (.cells #[Value.string (bs L.name),.int .i64 L.cn,.string (L.t 0),.string (L.t 1),.string (L.t 2),.bool true] 186);go_wp2_with fail;obtain⟨hb,u⟩:∃hb,BZ (D8 ds L.name) d.name=hb:=⟨_,rfl⟩
      go_cut [35] from 19 to 43 (fun q wx=>q=.bool hb/\Aw wx R [Value.string (bs d.name),.int .i64 d.cn,.string (d.t 0),.string (d.t 1),.string (d.t 2),.slice (some ⟨g0,0,none⟩) d.lits.length bcap,.slice so d.ah.length scap] 117/\Below w.heap.size w wx)
      case first=>
          go_region_with (first|(go_at_call 96;refine(eZ _ base _ cap ds L.name (by exact Y) hW hn (by omega)).mono ?_;rintro e w2 ⟨tb,mv,lv,rfl,q5,X,E,J⟩;have n:=(y.alloc _).drew.below J;have Z:=(z.alloc v _).drew.trans (J.mono (by simp;omega));obtain⟨h0,h1,h2,h3,h4,h5,h6⟩:=n.c7)|(go_at_call 95;refine(aI _ _ tb mv lv [] 178 (D8 ds L.name) d.name (by exact X) (by exact E) (by unfold maxLen;omega)).mono ?_;rintro e w3 ⟨he,rfl⟩;rw[u]at he;subst he))
          all_goals go_wp2_with fail
          all_goals go_meet
          all_goals exact⟨rfl,n,Z⟩
      case rest=>
          clear f0 f1 f2 f3 f4 f5 f6 B Y y z K v h;obtain⟨rfl,y,z⟩:=hcut;cases hb
          ·have l:Hid ((FQ ds d (j+1) (d.lits.drop (j+1))).or (JJ ds (ds.drop (k+1)))=Fz ds):=by show _=_;rw[<-C.out,f.out];simp[FQ,hng,u]
           clear u;go_wp2_with fail;exact⟨⟨j+1,b,by go_num,l,y,z⟩,by simp[intOf];omega⟩
          ·have U:1+j<d.ah.length:=by rw[M.out];omega
           have P:Hid (Fz ds=some (d.ah[1+j]).mark):=by show _=_;rw[<-C.out,f.out];simp[FQ,hng,u,U]
           obtain⟨gs,q0,H,s0,s1,s2,s3,s4⟩:=QW A (1+j) U;subst q0;rw[<-z.cell (p:=⟨gs,(1+j)*5,none⟩) H]at s0;obtain⟨q,hq⟩:∃q:Nat,(d.ah[1+j]).mark=q:=⟨_,rfl⟩;rw[hq]at s0 P;clear hq u s1 s2 s3 s4;obtain⟨f0,f1,f2,f3,f4,f5,f6⟩:=y.c7;go_wp2_with fail;go_ret2;rw[P.out];exact⟨rfl,z⟩
    ·have l:Hid (JJ ds (ds.drop (k+1))=Fz ds):=by show _=_;rw[<-C.out,show d.lits.drop j=[] from Ex (by omega)];simp[FQ]
     go_wp2;exact⟨⟨k+1,r,by go_num,l,z⟩,by simp[intOf];omega⟩
  ·have G:k=ds.length:=by omega
   have P:Hid (Fz ds=none):=by show Fz ds=none;rw[<-HX.out,G,AR];rfl
   clear G;go_wp2;go_ret2;rw[P.out];exact⟨rfl,z⟩
end
section
open Go.RowKit Go.WideMaps Go.Maps
def Ef(ds:List Bd):Nat×Nat:=
 match FY ds with
 |some p=>(3,p)
 |none=>match EB ds with
  |some p=>(4,p)
  |none=>match Fz ds with
   |some p=>(5,p)
   |none=>(0,0)
theorem M2(w:World)(base:Nat)(ao:Option Addr)(cap:Nat)(ds:List Bd)(y:DG w base (.slice ao ds.length cap) ds)(hW:∀d∈ds,d.WF)(hn:ds.length<=40):
 Calls prog 26 #[.slice ao ds.length cap] w fun e w'=>e=.returned (.tuple #[.int .i64 (Ef ds).1,.int .i64 (Ef ds).2])/\Below w.heap.size w w':=by
 cases h1:FY ds with
 |some p=>have k:=Ao (show Ef ds=(3,p) by simp[Ef,h1]);go_enter func26,ntmps26;go_wp2_with (go_at_call 58;refine(NG _ base ao cap ds (by exact y) hW hn).mono ?_;rintro e w1 ⟨j,q⟩;rw[h1]at j;simp only[G8]at j;subst j);go_ret2;rw[k.out];exact⟨rfl,q⟩
 |none=>
  cases h2:EB ds with
  |some p=>have k:=Ao (show Ef ds=(4,p) by simp[Ef,h1,h2]);go_enter func26,ntmps26;go_wp2_with (first|(go_at_call 58;refine(NG _ base ao cap ds (by exact y) hW hn).mono ?_;rintro e w1 ⟨j,q⟩;rw[h1]at j;simp only[G8]at j;subst j)|(go_at_call 59;refine(Va _ base ao cap ds (by exact y.below q) hW hn).mono ?_;rintro e w2 ⟨j,z⟩;rw[h2]at j;simp only[G8]at j;subst j));go_ret2;rw[k.out];exact⟨rfl,q.trans (z.mono q.size)⟩
  |none=>
   cases h3:Fz ds with
   |some p=>have k:=Ao (show Ef ds=(5,p) by simp[Ef,h1,h2,h3]);go_enter func26,ntmps26;go_wp2_with (first|(go_at_call 58;refine(NG _ base ao cap ds (by exact y) hW hn).mono ?_;rintro e w1 ⟨j,q⟩;rw[h1]at j;simp only[G8]at j;subst j)|(go_at_call 59;refine(Va _ base ao cap ds (by exact y.below q) hW hn).mono ?_;rintro e w2 ⟨j,z⟩;rw[h2]at j;simp only[G8]at j;subst j)|(go_at_call 60;refine(To _ base ao cap ds (by exact(y.below q).below z) hW hn).mono ?_;rintro e w3 ⟨j,v⟩;rw[h3]at j;simp only[G8]at j;subst j));go_ret2;rw[k.out];exact⟨rfl,(q.trans (z.mono q.size)).trans (v.mono (Ay q.size z.size))⟩
   |none=>have k:=Ao (show Ef ds=(0,0) by simp[Ef,h1,h2,h3]);go_enter func26,ntmps26;go_wp2_with (first|(go_at_call 58;refine(NG _ base ao cap ds (by exact y) hW hn).mono ?_;rintro e w1 ⟨j,q⟩;rw[h1]at j;simp only[G8]at j;subst j)|(go_at_call 59;refine(Va _ base ao cap ds (by exact y.below q) hW hn).mono ?_;rintro e w2 ⟨j,z⟩;rw[h2]at j;simp only[G8]at j;subst j)|(go_at_call 60;refine(To _ base ao cap ds (by exact(y.below q).below z) hW hn).mono ?_;rintro e w3 ⟨j,v⟩;rw[h3]at j;simp only[G8]at j;subst j));go_ret2;rw[k.out];exact⟨rfl,(q.trans (z.mono q.size)).trans (v.mono (Ay q.size z.size))⟩
end
end Go.Proofs.YtpbfiffgcgnidaaGreatDoor
