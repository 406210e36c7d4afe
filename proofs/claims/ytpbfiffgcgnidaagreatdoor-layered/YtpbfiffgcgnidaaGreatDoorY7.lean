import Derived.Test.YtpbfiffgcgnidaaGreatDoorYal
import Derived.Test.YtpbfiffgcgnidaaGreatDoorY6
namespace Go.Proofs.YtpbfiffgcgnidaaGreatDoor
set_option maxRecDepth 100000
set_option maxHeartbeats 4000000
set_option linter.unusedSimpArgs false
open Go.Proofs.Tryz
section
attribute [local go_sem] AE As
open Go.RowKit Go.WideMaps Go.Maps
def ES(w:World)(base:Nat)(mv lv cv:Value)(xs:List B8)(ns:List Nat):Prop:=
 Cr w base mv lv xs/\ns.length=xs.length/\w.ownsRow base 3 1 cv xs.length (ns.map fun n=>.int .i64 (n:Nat))
theorem gE:(prog.info? 3).map (fun i=>(i.zero,i.size,i.bytes))=some (some (.int .i64 0),1,8):=by kernel_rfl
theorem Cr.fj{base sb:Nat}{w w':World}{mv lv:Value}{xs:List B8}(h:Cr w base mv lv xs)(q:Bg sb w w'){cs:List Value}{t:TypeId}(hb:Aw w sb cs t)(ht:t≠9):Cr w' base mv lv xs:=by
 refine⟨D1 h.1 q (Av h.1 hb ht),?_⟩;rcases h.2 with h2|⟨r,D,y,k,j,z⟩
 ·exact .inl h2
 ·exact .inr ⟨r,D,y,k,Fa j q (E9 j hb).symm,z⟩
theorem Cr.alloc{base:Nat}{w:World}{mv lv:Value}{xs:List B8}(h:Cr w base mv lv xs)(o:Obj):Cr (w.alloc o) base mv lv xs:=by
 refine⟨h.1.alloc o,?_⟩;rcases h.2 with h2|⟨r,D,j,y,z,q⟩
 ·exact .inl h2
 ·exact .inr ⟨r,D,j,y,z.alloc o,q⟩
theorem Cr.drew{base:Nat}{w:World}{mv lv:Value}{xs:List B8}(h:Cr w base mv lv xs):Cr w.drew base mv lv xs:=h
theorem Cr.drewN{base:Nat}{w:World}{mv lv:Value}{xs:List B8}(h:Cr w base mv lv xs)(n:Nat):Cr (w.drewN n) base mv lv xs:=h
theorem Cr.grown{base:Nat}{w w':World}{mv lv:Value}{xs:List B8}(h:Cr w base mv lv xs){base':Nat}{e:TypeId}{size:Nat}{v:Value}{n:Nat}{ys:List Value}(q:w.grownBy w' v.ownBlock)(j:w.ownsRow base' e size v n ys)(k:e≠9):Cr w' base mv lv xs:=by
 refine⟨h.1.kept q (Em h.1 j (FG k)),?_⟩;rcases h.2 with h2|⟨r,D,u,g,z,y⟩
 ·exact .inl h2
 ·exact .inr ⟨r,D,u,g,z.kept q (FG (Iw z j)),y⟩
theorem ZB(xs:List B8)(k:B8)(h:BZ xs k=true):CI xs k<xs.length:=by
 have q:k∈xs:=by simpa[BZ]using h
 simp only[CI,q,Ai];exact B9 q
def Y4(ns:List Nat)(i:Nat):Int:=(ns.getD i 0:Nat)
theorem LJ(w:World)(base sb:Nat)(mv lv cv:Value)(xs:List B8)(ns:List Nat)(k:B8)(c:Int)(t0 t1 t2:ByteArray)(q:Aw w sb [mv,lv,cv] 180)(hC:ES w base mv lv cv xs ns)(t:k.length<=maxLen)(hx:BZ xs k=true):
 Calls prog 92 #[.pointer (some ⟨sb,0,none⟩),.agg #[.string (bs k),.int .i64 c,.string t0,.string t1,.string t2]] w fun e w'=>e=.returned (.bool (Y4 ns (CI xs k)==c))/\
  Below w.heap.size w w':=by
 obtain⟨hS,y,j⟩:=hC;have v:=ZB xs k hx;obtain⟨ao,cap,rfl⟩:=Au j;obtain⟨g,rfl,d⟩:=DO j _ v;have z:w.cell? ⟨g,CI xs k,none⟩=some (.int .i64 (Y4 ns (CI xs k))):=by rw[d];simp[Y4,y,v]
 have q1:g<w.heap.size:=(j.lt g rfl).2;have q0:=q.lt;have c2:w.cell? ⟨sb,2,none⟩=some (.slice (some ⟨g,0,none⟩) xs.length cap):=q.cell 2;clear d;have hL:=Ao y;clear y;obtain⟨p,u⟩:∃p:Nat,Hid (p=CI xs k):=⟨_,rfl⟩;rw[<-u.out]at z v⊢;go_enter func92,ntmps92;go_wp2
 go_region_with (go_at_call 107;refine(WR _ base sb mv lv [_] 180 xs k (by exact(q.alloc _).drew) (by exact(hS.alloc _).drew) t hx).mono ?_;rintro e w1 ⟨b,rfl⟩;rw[<-u.out]at b;subst b)
 all_goals go_wp2
 all_goals go_quiet (fail)
 all_goals go_wp2
 all_goals go_ret
 all_goals exact⟨rfl,UD (((Ag _ w).alloc (Ab _) _).drew) _⟩
theorem OA(w:World)(base sb:Nat)(mv lv cv:Value)(xs:List B8)(ns:List Nat)(k:B8)(c:Nat)(t0 t1 t2:ByteArray)(R:Aw w sb [mv,lv,cv] 180)(hC:ES w base mv lv cv xs ns)(hk:k.length<=maxLen)(hx:BZ xs k=false)(hn:xs.length<=100000)(X:base<=w.heap.size):
 Calls prog 92 #[.pointer (some ⟨sb,0,none⟩),.agg #[.string (bs k),.int .i64 c,.string t0,.string t1,.string t2]] w fun e w'=>e=.returned (.bool true)/\
  ∃v lv' U,Aw w' sb [v,lv',U] 180/\ES w' base v lv' U (xs++[k]) (ns++[c])/\Bz base sb [9,3] w w':=by
 obtain⟨hS,hl,P⟩:=hC;obtain⟨ao,cap,rfl⟩:=Au P;obtain⟨i1,S,H,W,q0⟩:=Bc gE;have q2:=R.lt;have HL:=Ao hl;clear hl;go_enter func92,ntmps92;go_wp2
 go_cut [5,6] from 7 to 37 (fun p q l=>p=.int .i64 xs.length/\q=.bool true/\∃v lv',Aw l sb [v,lv',.slice ao xs.length cap] 180/\Cr l base v lv' (xs++[k])/\l.ownsRow base 3 1 (.slice ao xs.length cap) xs.length (ns.map fun n=>.int .i64 (n:Nat))/\
  Aw l w.heap.size [.string (bs k),.int .i64 c,.string t0,.string t1,.string t2] 80/\Bz base sb [9,3] w l)
 case first=>
  go_region_with (go_at_call 107;refine(WS _ base sb mv lv [_] 180 xs k (by exact(R.alloc _).drew) (by exact(hS.alloc _).drew) hk hx hn (by decide) (by simp;omega)).mono ?_;rintro e w1 ⟨rfl,v,lv',y,s,z⟩)
  all_goals go_wp2_with fail
  all_goals go_meet
  all_goals
   have r:=z.ty w.heap.size [.string (bs k),.int .i64 c,.string t0,.string t1,.string t2] 80 (by omega) (by decide) (Aw.drew (Aw.new w _ _));have C:=z.own ((P.alloc _).drew) (Av P R (by decide)) (by decide);have N:Bz base sb [9,3] w w1:=(Bz.kept (((Bg.refl sb w).aj _).bx) X).trans ⟨z.os,z.tape,z.output,z.size,z.low,fun i cs t a b d=>z.ty i cs t a (by simp at b⊢;exact b.1) d⟩;exact⟨rfl,rfl,v,lv',y,s,C,r,N⟩
 case rest=>
  obtain⟨rfl,rfl,v,lv',y,s,m,r,z⟩:=hcut;have c2:wc.cell? ⟨sb,2,none⟩=some (.slice ao xs.length cap):=y.cell 2;have fB:=y.frozen;have x1:wc.cell? ⟨w.heap.size,1,none⟩=some (.int .i64 c):=r.cell 1;have O:sb<wc.heap.size:=y.lt;have L:w.heap.size<wc.heap.size:=r.lt;have x:∀V,((wc.alloc V).drew).ownsRow base 3 1 (.slice ao xs.length cap) xs.length (ns.map fun n=>.int .i64 (n:Nat)):=fun V=>m.alloc V;have o:∀j u,[Value.int .i64 c][j]? =some u->((wc.alloc (.cells #[Value.int .i64 c] 3)).drew).cell? ((⟨wc.heap.size,0,none⟩:Addr).add j)=some u:=fun j u h=>AS wc [Value.int .i64 c] 3 j u h;have Y:∀u∈[Value.int .i64 (c:Nat)],u.oneCell'=true:=by intro u hu;simp at hu;subst hu;rfl
  have A:xs.length+1<=maxLen:=by unfold maxLen;omega
  have E:(xs.length+1)*8<=140737488355328:=by omega
  have K:∀V,base<=((wc.alloc V).drew).heap.size:=by intro V;have:=z.size;simp;omega
  have J:=Av m y (by decide);have Z:=Av m r (by decide);go_wp2_with fail
  go_cut [] from 7 to 37 (fun l=>∃g2 g,Aw l sb [v,lv',.slice (some ⟨g2,0,none⟩) (xs.length+1) g] 180/\Cr l base v lv' (xs++[k])/\l.ownsRow base 3 1 (.slice (some ⟨g2,0,none⟩) (xs.length+1) g) (xs.length+1) ((ns.map fun n=>.int .i64 (n:Nat))++[.int .i64 c])/\
   Aw l w.heap.size [.string (bs k),.int .i64 c,.string t0,.string t1,.string t2] 80/\Bz base sb [9,3] w l)
  case first=>
   go_region_law (refine EO rfl (.tmp 21) (.tmp 24) 97 rfl base 3 i1 _ 1 8 underlying97 S H W q0 rfl (by decide) (.slice ao xs.length cap) xs.length (ns.map fun n=>.int .i64 (n:Nat)) (by simp[Act.eval]) (x _) ⟨wc.heap.size,0,none⟩ 1 1 [.int .i64 c] (by simp[Act.eval]) (by decide) rfl o Y A E (K _) ?_;intro g2 g w3 G Q;have f:=(y.alloc _).drew.grown Q J;have d2:=f.cell 2;have q1:=f.frozen;simp at d2;have I:=(r.alloc _).drew.grown Q Z;have M:=(s.alloc _).drew.grown Q (x _) (by decide);have B:=(z.trans (Bz.kept (((Bg.refl sb wc).aj _).bx) (by have:=z.size;omega))).trans (Bz.grown Q (x _) (Ab _) (K _) (by decide)))
   all_goals go_wp2_with fail
   all_goals go_meet
   all_goals
    exact⟨g2,g,f.setCell 2 _,M.fj (Bg.setCell (b:=sb) w3 (p:=⟨sb,2,none⟩) rfl _) f (by decide),AJ G ⟨sb,2,none⟩ _ (Av G f (by decide)),I.setOther ⟨sb,2,none⟩ _ (by simp only[ne_eq];omega),B.trans (Bz.kept (Bg.setCell (b:=sb) w3 (p:=⟨sb,2,none⟩) rfl _) (by have:=B.size;omega))⟩
  case rest=>
   clear c2 fB x1 x o Y K J Z y s m r z O L;obtain⟨g2,g,y,s,m,r,z⟩:=hcut;have c2:wc.cell? ⟨sb,2,none⟩=some (.slice (some ⟨g2,0,none⟩) (xs.length+1) g):=y.cell 2;have x1:wc.cell? ⟨w.heap.size,1,none⟩=some (.int .i64 c):=r.cell 1;have q3:wc.cell? ⟨g2,xs.length,none⟩=some (.int .i64 c):=by obtain⟨g3,h3,h4⟩:=DO m xs.length (by omega);simp at h3;subst h3;rw[h4];simp[HL.out]
   go_wp2_with fail
   go_quiet (fail)
   go_wp2
   go_ret
   refine⟨by simp,v,lv',_,y,⟨s,by simp[HL.out],by rw[Am,A8];exact m⟩,z.trans (Bz.kept (Bg.drewN sb wc _) (by have:=z.size;omega))⟩
structure Bd.WF(d:Bd):Prop where
 ah:d.ah.length=d.lits.length+1
 lits:d.lits.length<=4
 words:∀a∈d.atoms,a.1.length<=12/\a.2.length<=3/\∀t∈a.2,t.length<=12
 places:∀p∈d.ah,p.ps.length<=3
def Bd.nm(d:Bd):ByteArray:=bs d.name
def Bd.cn(d:Bd):Int:=d.ts.length
def Bd.t(d:Bd)(i:Nat):ByteArray:=bs (d.ts.getD i [])
theorem IZ{w:World}{base:Nat}{ao:Option Addr}{cap:Nat}{ds:List Bd}(h:DG w base (.slice ao ds.length cap) ds)(i:Nat)(p:i<ds.length):
 ∃g bo bcap so scap,ao=some ⟨g,0,none⟩/\g<w.heap.size/\w.cell? ⟨g,i*7,none⟩=some (.string ds[i].nm)/\w.cell? ⟨g,i*7+1,none⟩=some (.int .i64 ds[i].cn)/\w.cell? ⟨g,i*7+2,none⟩=some (.string (ds[i].t 0))/\
  w.cell? ⟨g,i*7+3,none⟩=some (.string (ds[i].t 1))/\w.cell? ⟨g,i*7+4,none⟩=some (.string (ds[i].t 2))/\w.cell? ⟨g,i*7+5,none⟩=some (.slice bo ds[i].lits.length bcap)/\w.cell? ⟨g,i*7+6,none⟩=some (.slice so ds[i].ah.length scap)/\
  w.ownsRow base 186 6 (.slice bo ds[i].lits.length bcap) ds[i].lits.length (ds[i].lits.flatMap BQ.cells)/\w.ownsRow base 141 5 (.slice so ds[i].ah.length scap) ds[i].ah.length (ds[i].ah.flatMap Dg.cells):=by
 obtain⟨rows,u,c,b⟩:=h;have q:∀r∈rows,r.length=7:=by intro r v;obtain⟨j,hj,rfl⟩:=B3 v;obtain⟨d,sv,hc,_⟩:=b j ds[j] rows[j] (by simp) (by simp);rw[hc];rfl
 obtain⟨g,rfl,hb,hc⟩:=E8 u q c i p;obtain⟨d,sv,k,z,y⟩:=b i ds[i] rows[i] (by simp) (by simp);have e:rows.getD i []=rows[i]:=by simp[show i<rows.length by omega]
 rw[e,k]at hc;obtain⟨bo,bcap,rfl⟩:=Au z;obtain⟨so,scap,rfl⟩:=Au y;exact⟨g,bo,bcap,so,scap,rfl,(u.lt g rfl).2,hc 0 (by decide),hc 1 (by decide),hc 2 (by decide),hc 3 (by decide),hc 4 (by decide),hc 5 (by decide),hc 6 (by decide),z,y⟩
def oI(a:B8×List B8):ByteArray:=bs a.1
def oJ(a:B8×List B8):Int:=a.2.length
def ID(a:B8×List B8)(i:Nat):ByteArray:=bs (a.2.getD i [])
theorem KD{w:World}{base:Nat}{g n cap:Nat}{ats:List (B8×List B8)}(h:w.ownsRow base 80 5 (.slice (some ⟨g,0,none⟩) n cap) n (ats.flatMap FF))(hn:ats.length=n)(i:Nat)(z:i<ats.length):
 w.cell? ⟨g,i*5,none⟩=some (.string (oI ats[i]))/\w.cell? ⟨g,i*5+1,none⟩=some (.int .i64 (oJ ats[i]))/\w.cell? ⟨g,i*5+2,none⟩=some (.string (ID ats[i] 0))/\w.cell? ⟨g,i*5+3,none⟩=some (.string (ID ats[i] 1))/\w.cell? ⟨g,i*5+4,none⟩=some (.string (ID ats[i] 2)):=by
 rw[J5]at h;obtain⟨g',q,hb,hc⟩:=E8 h (by intro r j;simp at j;obtain⟨a,b,_,rfl⟩:=j;rfl) (by simp[hn]) i (by omega);simp at q;subst q;have e:(ats.map FF).getD i []=FF ats[i]:=by simp[z]
 rw[e]at hc;exact⟨hc 0 (by decide),hc 1 (by decide),hc 2 (by decide),hc 3 (by decide),hc 4 (by decide)⟩
theorem QW{w:World}{base:Nat}{so:Option Addr}{cap:Nat}{sp:List Dg}(h:w.ownsRow base 141 5 (.slice so sp.length cap) sp.length (sp.flatMap Dg.cells))(i:Nat)(q:i<sp.length):
 ∃g,so=some ⟨g,0,none⟩/\g<w.heap.size/\w.cell? ⟨g,i*5,none⟩=some (.int .i64 (sp[i].mark:Nat))/\w.cell? ⟨g,i*5+1,none⟩=some (.int .i64 (sp[i].np:Nat))/\w.cell? ⟨g,i*5+2,none⟩=some (.int .i64 (sp[i].ps.getD 0 0:Nat))/\
  w.cell? ⟨g,i*5+3,none⟩=some (.int .i64 (sp[i].ps.getD 1 0:Nat))/\w.cell? ⟨g,i*5+4,none⟩=some (.int .i64 (sp[i].ps.getD 2 0:Nat)):=by
 rw[J5]at h;obtain⟨g,rfl,hb,hc⟩:=E8 h (by intro r j;simp at j;obtain⟨a,_,rfl⟩:=j;rfl) (by simp) i q;have e:(sp.map Dg.cells).getD i []=sp[i].cells:=by simp[q]
 rw[e]at hc;exact⟨g,rfl,(h.lt g rfl).2,hc 0 (by decide),hc 1 (by decide),hc 2 (by decide),hc 3 (by decide),hc 4 (by decide)⟩
def Bd.items(d:Bd):List (B8×Nat×Nat):=(d.atoms.zip d.ah).map fun x=>(x.1.1,x.1.2.length,x.2.np)
def EK:List B8->List Nat->List (B8×Nat×Nat)->Option Nat
 |_,_,[]=>none
 |xs,ns,(k,n,p)::r=>if BZ xs k=true then(if ns.getD (CI xs k) 0=n then EK xs ns r else some p) else EK (xs++[k]) (ns++[n]) r
def FY(ds:List Bd):Option Nat:=EK [] [] (ds.flatMap Bd.items)
def G8:Option Nat->Value
 |some p=>.tuple #[.int .i64 (p:Nat),.bool true]
 |none=>.tuple #[.int .i64 0,.bool false]
theorem Mp(d:Bd)(h:d.WF):d.items.length=d.lits.length+1:=by simp[Bd.items,Bd.atoms,h.ah]
theorem aB(d:Bd)(h:d.WF)(j:Nat)(q:j<d.lits.length+1):d.items[j]'(by rw[Mp d h];exact q)=((d.atoms[j]'(by simp[Bd.atoms];exact q)).1,(d.atoms[j]'(by simp[Bd.atoms];exact q)).2.length,(d.ah[j]'(by rw[h.ah];exact q)).np):=by simp[Bd.items]
theorem Ah{w w':World}{base:Nat}{e:TypeId}{size:Nat}{v:Value}{n:Nat}{xs:List Value}(h:w.ownsRow base e size v n xs)(hb:Below w.heap.size w w'):w'.ownsRow base e size v n xs:=
 h.kept (row:=none) ⟨hb.os,hb.tape,hb.output,hb.size,fun k q _=>hb.block k q⟩ (by cases v.ownBlock<;>simp)
theorem Fy{w w':World}{P:Program}{k:TypeId}{R:Value->Option (DataW Unit×List MemPlace)}{r n:Nat}{D:DataW Unit}(h:w.ownsMap P k R r n D)(hb:Below w.heap.size w w'):w'.ownsMap P k R r n D:=
 h.kept (row:=none) ⟨hb.os,hb.tape,hb.output,hb.size,fun i q _=>hb.block i q⟩ (by simp)
theorem Cr.below{base:Nat}{w w':World}{mv lv:Value}{xs:List B8}(h:Cr w base mv lv xs)(hb:Below w.heap.size w w'):Cr w' base mv lv xs:=by
 refine⟨Ah h.1 hb,?_⟩;rcases h.2 with h2|⟨r,D,j,y,z,q⟩
 ·exact .inl h2
 ·exact .inr ⟨r,D,j,y,Fy z hb,q⟩
theorem ES.below{base:Nat}{w w':World}{mv lv cv:Value}{xs:List B8}{ns:List Nat}(h:ES w base mv lv cv xs ns)(hb:Below w.heap.size w w'):ES w' base mv lv cv xs ns:=⟨h.1.below hb,h.2.1,Ah h.2.2 hb⟩
theorem Ac(w:World)(o:Obj):Below w.heap.size w (w.alloc o):=(Ag _ w).alloc (Ab _) o
theorem Bz.toBelow{base sb:Nat}{T:List TypeId}{w w':World}(h:Bz base sb T w w')(hs:base<=sb):Below base w w':=⟨h.os,h.tape,h.output,h.size,fun k q=>h.low k q (by omega)⟩
def zC:List Value:=[.map none,.slice none 0 0,.slice none 0 0]
theorem NG(w:World)(base:Nat)(ao:Option Addr)(cap:Nat)(ds:List Bd)(hP:DG w base (.slice ao ds.length cap) ds)(hW:∀d∈ds,d.WF)(hn:ds.length<=40):
 Calls prog 58 #[.slice ao ds.length cap] w fun e w'=>e=.returned (G8 (FY ds))/\Below w.heap.size w w':=by
 go_enter func58,ntmps58;go_wp2
 go_loopw [11] (fun i wr=>∃(k:Nat) (xs:List B8) (ns:List Nat) (mv lv cv:Value),k<=ds.length/\i=.int .i64 k/\xs.length<=5*k/\Hid (EK xs ns ((ds.drop k).flatMap Bd.items)=FY ds)/\
  Aw wr w.heap.size [mv,lv,cv] 180/\ES wr w.heap.size mv lv cv xs ns/\Below w.heap.size w wr) (fun i _=>ds.length-(intOf i).toNat)
 case atStart=>exact⟨0,[],[],.map none,.slice none 0 0,.slice none 0 0,by omega,rfl,by simp,rfl,Aw.new w zC 180,⟨⟨Ak _ _ _ _,.inl ⟨rfl,rfl⟩⟩,rfl,Ak _ _ _ _⟩,(Ag _ _).alloc (Ab _) _⟩
 case round=>
  obtain⟨k,xs,ns,mv,lv,cv,hk,rfl,L,l,hC,v,u⟩:=hrel;by_cases o:k<ds.length
  ·obtain⟨g,bo,bcap,so,scap,rfl,G,e0,e1,e2,e3,e4,e5,e6,q2,q3⟩:=IZ hP k o;have r:=hW ds[k] (Aj o);have HD:Hid ((ds.drop k).flatMap Bd.items=ds[k].items++(ds.drop (k+1)).flatMap Bd.items):=by show(ds.drop k).flatMap Bd.items=_;rw[Aa o];rfl
   generalize A:ds[k]=d at*;have j0:=Ao A;clear A;have j3:w.heap.size<wr.heap.size:=hC.lt;have j6:=r.lits;have C:=Ao r.ah;rw[<-u.cell (p:=⟨g,k*7,none⟩) G]at e0;rw[<-u.cell (p:=⟨g,k*7+1,none⟩) G]at e1;rw[<-u.cell (p:=⟨g,k*7+2,none⟩) G]at e2;rw[<-u.cell (p:=⟨g,k*7+3,none⟩) G]at e3;rw[<-u.cell (p:=⟨g,k*7+4,none⟩) G]at e4;rw[<-u.cell (p:=⟨g,k*7+5,none⟩) G]at e5;rw[<-u.cell (p:=⟨g,k*7+6,none⟩) G]at e6;have N:Below wr.heap.size wr (wr.alloc (.cells #[Value.string d.nm,.int .i64 d.cn,.string (d.t 0),.string (d.t 1),.string (d.t 2),.slice bo d.lits.length bcap,.slice so d.ah.length scap] 117)):=Ac _ _;have Z:=Aw.new wr [Value.string d.nm,.int .i64 d.cn,.string (d.t 0),.string (d.t 1),.string (d.t 2),.slice bo d.lits.length bcap,.slice so d.ah.length scap] 117;go_wp2_with (go_at_call 91;refine(LQ _ base d.nm (d.t 0) (d.t 1) (d.t 2) d.cn bo bcap d.name d.ts d.lits rfl (by exact(Ah q2 u).alloc _) (by omega)).mono ?_;rintro e w1 ⟨ga,M,rfl,V,m⟩);clear e0 e1 e2 e3 e4 e5 e6;have S:=(hC.alloc _).below m;have J:=(v.below N).below m;have Y:=Z.below m;have Q:Below w.heap.size w w1:=(u.alloc (by omega) _).trans (m.mono (by simp;omega));clear N Z hC v u m;simp only[C8]at V;generalize wr.heap.size=R at*
   go_loopw [19] (fun jv wr=>∃(j:Nat) (xs:List B8) (ns:List Nat) (mv lv cv:Value),j<=d.lits.length+1/\jv=.int .i64 j/\xs.length<=5*k+j/\Hid (EK xs ns (d.items.drop j++(ds.drop (k+1)).flatMap Bd.items)=FY ds)/\
    Aw wr w.heap.size [mv,lv,cv] 180/\ES wr w.heap.size mv lv cv xs ns/\Aw wr R [.string d.nm,.int .i64 d.cn,.string (d.t 0),.string (d.t 1),.string (d.t 2),.slice bo d.lits.length bcap,.slice so d.ah.length scap] 117/\
    wr.ownsRow (R+1) 80 5 (.slice (some ⟨ga,0,none⟩) (d.lits.length+1) M) (d.lits.length+1) (d.atoms.flatMap FF)/\Below w.heap.size w wr) (fun jv _=>d.lits.length+1-(intOf jv).toNat)
   case atStart=>
    refine⟨0,xs,ns,mv,lv,cv,by omega,rfl,by omega,?_,S,J,Y,?_,Q⟩
    ·show EK xs ns (d.items.drop 0++_)=FY ds;rw[<-l.out,HD.out];rfl
    ·exact V
   case round=>
    clear S J Y Q V l L;obtain⟨j,xs,ns,mv,lv,cv,hj,rfl,L,l,hC,v,f,H,u⟩:=hrel;have q8:w.heap.size<wr.heap.size:=hC.lt;have q9:R<wr.heap.size:=f.lt;have q4:d.atoms.length=d.lits.length+1:=by simp[Bd.atoms]
    by_cases b:j<d.lits.length+1
    ·obtain⟨a0,h,a2,a3,a4⟩:=KD H q4 j (by omega);have x:=aB d r j b;have z:=Aa (show j<d.items.length by rw[Mp d r];exact b);rw[x]at z;have I:=(r.words _ (Aj (show j<d.atoms.length by omega))).1;obtain⟨a,ha⟩:∃a,d.atoms[j]=a:=⟨_,rfl⟩;obtain⟨q,hq⟩:∃q:Nat,(d.ah[j]'(by rw[r.ah];exact b)).np=q:=⟨_,rfl⟩;simp only[ha]at a0 h a2 a3 a4 z I;rw[hq]at z;have HQ:=Ao hq;have K:=Ao z;clear ha hq z x;obtain⟨nm,ts⟩:=a;have j1:wr.cell? ⟨ga,j*5,none⟩=some (.string (bs nm)):=a0;have j2:wr.cell? ⟨ga,j*5+1,none⟩=some (.int .i64 (ts.length:Nat)):=h;clear a0 h;have B:nm.length<=maxLen:=by unfold maxLen;simp only[]at I;omega
     have c:Below wr.heap.size wr (wr.alloc (.cells #[Value.string (bs nm),.int .i64 (ts.length:Nat),.string (ID (nm,ts) 0),.string (ID (nm,ts) 1),.string (ID (nm,ts) 2)] 80)):=Ac _ _;cases hx:BZ xs nm
     ·have P:Hid (EK (xs++[nm]) (ns++[ts.length]) (d.items.drop (j+1)++(ds.drop (k+1)).flatMap Bd.items)=FY ds):=by show _=_;rw[<-l.out,K.out];simp[EK,hx]
      go_wp2_with (go_at_call 92;refine(OA _ w.heap.size w.heap.size mv lv cv xs ns nm ts.length _ _ _ (by exact hC.alloc _) (by exact v.below c) B hx (by omega) (by simp;omega)).mono ?_;rintro e w2 ⟨rfl,q7,lv',q0,q1,E,U⟩);have n:Below w.heap.size w w2:=(u.trans (c.mono (by omega))).trans (U.toBelow (Ab _));exact⟨⟨j+1,xs++[nm],ns++[ts.length],q7,lv',q0,b,by go_num,by simp;omega,P,q1,E,U.ty _ _ _ (by omega) (by decide) (f.alloc _),U.own (H.alloc _) (Av H hC (by decide)) (by decide),n⟩,by simp[intOf];omega⟩
     ·by_cases s:ns.getD (CI xs nm) 0=ts.length
      ·have hf:(Y4 ns (CI xs nm)==(ts.length:Int))=true:=by rw[Co];unfold Y4;rw[s]
       have P:Hid (EK xs ns (d.items.drop (j+1)++(ds.drop (k+1)).flatMap Bd.items)=FY ds):=by show _=_;rw[<-l.out,K.out];simp only[List.cons_append,EK,hx,Bk];rw[Ai s]
       clear s;go_wp2_with (go_at_call 92;refine(LJ _ w.heap.size w.heap.size mv lv cv xs ns nm _ _ _ _ (by exact hC.alloc _) (by exact v.below c) B hx).mono ?_;rintro e w2 ⟨rfl,n⟩);have y:=c.trans (n.mono (by simp));exact⟨⟨j+1,xs,ns,mv,lv,cv,b,by go_num,by omega,P,hC.below y,v.below y,f.below y,Ah H y,u.trans (y.mono (by omega))⟩,by simp[intOf];omega⟩
      ·have hf:(Y4 ns (CI xs nm)==(ts.length:Int))=false:=by rw[Az];unfold Y4;omega
       have W:Hid (FY ds=some q):=by show FY ds=some q;rw[<-l.out,K.out];simp only[List.cons_append,EK,hx,Bk];rw[Af s]
       clear s;obtain⟨gs,rfl,q5,s0,s1,s2,s3,s4⟩:=QW q3 j (by rw[C.out];exact b);have j5:j<d.ah.length:=by rw[C.out];exact b
       rw[HQ.out]at s1;go_wp2_with (go_at_call 92;refine(LJ _ w.heap.size w.heap.size mv lv cv xs ns nm _ _ _ _ (by exact hC.alloc _) (by exact v.below c) B hx).mono ?_;rintro e w2 ⟨rfl,n⟩;have y:=c.trans (n.mono (by simp));have b6:=(f.below y).cell 6;simp at b6;have X:=u.trans (y.mono (by omega));rw[<-X.cell (p:=⟨gs,j*5+1,none⟩) q5]at s1);go_ret2;rw[W.out];exact⟨rfl,X⟩
    ·have q6:j=d.lits.length+1:=by omega
     have P:Hid (EK xs ns ((ds.drop (k+1)).flatMap Bd.items)=FY ds):=by show _=_;rw[<-l.out,show d.items.drop j=[] from Ex (by rw[Mp d r];omega)];rfl
     have j4:j<=5:=by omega
     clear q6;go_wp2;exact⟨⟨k+1,xs,ns,mv,lv,cv,o,by go_num,by omega,P,hC,v,u⟩,by simp[intOf];omega⟩
  ·have O:k=ds.length:=by omega
   have W:Hid (FY ds=none):=by show FY ds=none;rw[<-l.out,O,AR];rfl
   clear O;go_wp2;go_ret2;rw[W.out];exact⟨rfl,u⟩
theorem bX(k:B8):(bs k).size=k.length:=by simp[bs,ByteArray.size]
def Bo(l:B8):Bool:=CT (hd l)
theorem DS(l:B8)(w:World):Calls prog 94 #[.string (bs l)] w fun e w'=>e=.returned (.bool (Bo l))/\w'=w:=by
 cases l with
 |nil=>
  have h1:(bs []).toList.isEmpty=true:=by rw[Fm];rfl
  go_enter func94,ntmps94;go_wp2
  go_ret
  exact⟨rfl,rfl⟩
 |cons c r=>
  have h1:(bs (c::r)).toList.isEmpty=false:=by rw[Fm];rfl
  have h2:0<(bs (c::r)).size:=by rw[bX];simp
  have h3:(bs (c::r))[0].toNat=c.toNat:=rfl;go_enter func94,ntmps94;go_wp2_with (go_at_call 137;refine(Kw _ _).mono ?_;rintro e w' ⟨rfl,rfl⟩)
  go_ret
  exact⟨rfl,rfl⟩
theorem jZ(B o:Nat)(w:World):(Instr.sliceAt 78 (.pointer (some ⟨B,o,none⟩)) none (some (.int .i64 0)) none).run prog w=.ok (.slice (some ⟨B,o,none⟩) 0 3) w:=by kernel_rfl
theorem jY(B o:Nat)(w:World):(Instr.sliceAt 78 (.pointer (some ⟨B,o,none⟩)) none (some (.int .i64 1)) none).run prog w=.ok (.slice (some ⟨B,o,none⟩) 1 3) w:=by kernel_rfl
theorem jX(B o:Nat)(w:World):(Instr.sliceAt 78 (.pointer (some ⟨B,o,none⟩)) none (some (.int .i64 2)) none).run prog w=.ok (.slice (some ⟨B,o,none⟩) 2 3) w:=by kernel_rfl
theorem jW(B o:Nat)(w:World):(Instr.sliceAt 78 (.pointer (some ⟨B,o,none⟩)) none (some (.int .i64 3)) none).run prog w=.ok (.slice (some ⟨B,o,none⟩) 3 3) w:=by kernel_rfl
theorem NO(n:Nat)(hn:n<=3)(B o:Nat)(w:World):(Instr.sliceAt 78 (.pointer (some ⟨B,o,none⟩)) none (some (.int .i64 n)) none).run prog w=.ok (.slice (some ⟨B,o,none⟩) n 3) w:=by
 have h:n=0\/n=1\/n=2\/n=3:=by omega
 rcases h with rfl|rfl|rfl|rfl
 ·exact jZ B o w
 ·exact jY B o w
 ·exact jX B o w
 ·exact jW B o w
def DT(xs:List B8)(k:B8):List B8:=if BZ xs k=true then xs else xs++[k]
def Fw(xs:List B8)(l:BQ):List B8:=if l.neg=true then xs else l.ts.foldl DT xs
def PA(ls:List BQ):List B8:=ls.foldl Fw []
theorem Kf(xs:List B8)(k:B8):(DT xs k).length<=xs.length+1:=by unfold DT;split<;>simp
theorem LU(w:World)(base sb:Nat)(mv lv:Value)(t:TypeId)(xs:List B8)(k:B8)(z:Aw w sb [mv,lv] t)(hS:Cr w base mv lv xs)(v:k.length<=maxLen)(hn:xs.length<=100000)(ht:t≠9)(y:base<=w.heap.size):
 Calls prog 107 #[.pointer (some ⟨sb,0,none⟩),.string (bs k)] w fun e w'=>∃(p:Nat) (q:Bool) (j lv':Value),e=.returned (.tuple #[.int .i64 p,.bool q])/\
  Aw w' sb [j,lv'] t/\Cr w' base j lv' (DT xs k)/\Bz base sb [9] w w':=by
 cases hx:BZ xs k
 ·refine(WS w base sb mv lv [] t xs k z hS v hx hn ht y).mono ?_;rintro e w' ⟨rfl,j,lv',h1,h2,h3⟩;exact⟨_,_,j,lv',rfl,h1,by simpa[DT,hx]using h2,h3⟩
 ·refine(WR w base sb mv lv [] t xs k z hS v hx).mono ?_;rintro e w' ⟨rfl,rfl⟩;exact⟨_,_,mv,lv,rfl,z,by simpa[DT,hx]using hS,Bz.refl _ _ _ _⟩
theorem Nh(w:World)(base:Nat)(n0 t0 t1 t2:ByteArray)(c:Int)(ao:Option Addr)(cap:Nat)(lits:List BQ)
 (hL:w.ownsRow base 186 6 (.slice ao lits.length cap) lits.length (lits.flatMap BQ.cells))(hn:lits.length<=4)(hw:∀l∈lits,l.ts.length<=3/\∀t∈l.ts,t.length<=12):
 Calls prog 93 #[.agg #[.string n0,.int .i64 c,.string t0,.string t1,.string t2,.slice ao lits.length cap]] w fun e w'=>∃tb mv lv,e=.returned (.pointer (some ⟨tb,0,none⟩))/\w.heap.size<=tb/\
  Aw w' tb [mv,lv] 178/\Cr w' w.heap.size mv lv (PA lits)/\Below w.heap.size w w':=by
 go_enter func93,ntmps93;go_wp2
 go_loopw [13] (fun i wr=>∃(k:Nat) (mv lv:Value),k<=lits.length/\i=.int .i64 k/\((lits.take k).foldl Fw []).length<=3*k/\Aw wr (w.heap.size+1) [mv,lv] 178/\Cr wr w.heap.size mv lv ((lits.take k).foldl Fw [])/\Below w.heap.size w wr) (fun i _=>lits.length-(intOf i).toNat)
 case atStart=>exact⟨0,.map none,.slice none 0 0,by omega,rfl,by simp,C9 w _ [.map none,.slice none 0 0] 178,⟨Ak _ _ _ _,.inl ⟨rfl,rfl⟩⟩,((Ag _ _).alloc (Ab _) _).alloc (by simp) _⟩
 case round=>
  obtain⟨k,mv,lv,hk,rfl,N,hC,hS,q⟩:=hrel;by_cases y:k<lits.length
  ·obtain⟨g0,rfl,z,A,V,O,I,H,Y⟩:=Jq hL k y;have a:=hw lits[k] (Aj y);have Z:Hid ((lits.take (k+1)).foldl Fw []=Fw ((lits.take k).foldl Fw []) lits[k]):=by show _=_;rw[Ad y,Dd];rfl
   generalize P:lits[k]=L at*;clear P;generalize o:(lits.take k).foldl Fw []=xs at*;have q1:=Ao o;clear o;rw[<-q.cell (p:=⟨g0,k*6,none⟩) z]at A;rw[<-q.cell (p:=⟨g0,k*6+1,none⟩) z]at V;rw[<-q.cell (p:=⟨g0,k*6+2,none⟩) z]at O;rw[<-q.cell (p:=⟨g0,k*6+3,none⟩) z]at I;rw[<-q.cell (p:=⟨g0,k*6+4,none⟩) z]at H;rw[<-q.cell (p:=⟨g0,k*6+5,none⟩) z]at Y;have q3:w.heap.size+1<wr.heap.size:=hC.lt;cases hng:L.neg
   ·have n:L.cn=(L.ts.length:Nat):=rfl;have h3:L.ts.length<=3:=a.1;rw[n]at V;rw[hng]at Y;have C:=fun W:World=>NO L.ts.length h3 wr.heap.size 2 W;have b:=hC.alloc (.cells #[Value.string L.nm,.int .i64 (L.ts.length:Nat),.string (L.t 0),.string (L.t 1),.string (L.t 2),.bool false] 186);have d:=hS.alloc (.cells #[Value.string L.nm,.int .i64 (L.ts.length:Nat),.string (L.t 0),.string (L.t 1),.string (L.t 2),.bool false] 186);have u:=Aw.new wr [Value.string L.nm,.int .i64 (L.ts.length:Nat),.string (L.t 0),.string (L.t 1),.string (L.t 2),.bool false] 186;have g:=q.alloc (by omega) (.cells #[Value.string L.nm,.int .i64 (L.ts.length:Nat),.string (L.t 0),.string (L.t 1),.string (L.t 2),.bool false] 186);go_wp2_with fail;clear A V O I H Y hC hS q C n;generalize wr.heap.size=R at*
    go_loopw [26] (fun X K=>∃(j:Nat) (mv lv:Value),j<=L.ts.length/\X=.int .i64 j/\((L.ts.take j).foldl DT xs).length<=3*k+j/\Aw K (w.heap.size+1) [mv,lv] 178/\Cr K w.heap.size mv lv ((L.ts.take j).foldl DT xs)/\
     Aw K R [.string L.nm,.int .i64 (L.ts.length:Nat),.string (L.t 0),.string (L.t 1),.string (L.t 2),.bool false] 186/\Below w.heap.size w K) (fun X _=>L.ts.length-(intOf X).toNat)
    case atStart=>exact⟨0,mv,lv,by omega,rfl,by simpa using N,b,d,u,g⟩
    case round=>
     clear b d u g;obtain⟨j,mv,lv,hj,rfl,M,hC,hS,m,q⟩:=hrel;have q0:w.heap.size+1<wr.heap.size:=hC.lt;by_cases v:j<L.ts.length
     ·have f:=a.2 L.ts[j] (Aj v);have J:Hid ((L.ts.take (j+1)).foldl DT xs=DT ((L.ts.take j).foldl DT xs) L.ts[j]):=by show _=_;rw[Ad v,Dd];rfl
      have a0:wr.cell? ⟨R,2+j,none⟩=some (.string (bs L.ts[j])):=by
          rw[m.cell];have h:j=0\/j=1\/j=2:=by omega
          rcases h with rfl|rfl|rfl<;>simp[BQ.t,v]
      obtain⟨tm,s⟩:∃tm,L.ts[j]=tm:=⟨_,rfl⟩;rw[s]at a0 f J;clear s;obtain⟨ys,Q⟩:∃ys,(L.ts.take j).foldl DT xs=ys:=⟨_,rfl⟩;rw[Q]at hS M J;clear Q;have q2:=Kf ys tm;go_wp2_with (go_at_call 107;refine(LU _ w.heap.size (w.heap.size+1) mv lv 178 ys tm (by exact hC) (by exact hS) (by unfold maxLen;omega) (by omega) (by decide) (by omega)).mono ?_;rintro e w2 ⟨pp,qq,S,lv',rfl,U,G,r⟩);exact⟨⟨j+1,S,lv',v,by go_num,by rw[J.out];omega,U,by rw[J.out];exact G,r.ty _ _ _ (by omega) (by decide) m,q.trans (r.toBelow (by omega))⟩,by simp[intOf];omega⟩
     ·have x:j=L.ts.length:=by omega
      have E:Hid (Fw xs L=(L.ts.take j).foldl DT xs):=by show _=_;rw[x,AL];simp[Fw,hng]
      clear x;go_wp2;exact⟨⟨k+1,mv,lv,y,by go_num,by rw[Z.out,E.out];omega,hC,by rw[Z.out,E.out];exact hS,q⟩,by simp[intOf];omega⟩
   ·rw[hng]at Y;go_wp2;have hp:Fw xs L=xs:=by simp[Fw,hng]
    exact⟨⟨k+1,mv,lv,y,by go_num,by rw[Z.out,hp];omega,hC.alloc _,by rw[Z.out,hp];exact hS.alloc _,q.alloc (by omega) _⟩,by simp[intOf];omega⟩
  ·have B:k=lits.length:=by omega
   go_wp2
   go_ret
   subst B;rw[AL]at hS;exact⟨_,mv,lv,rfl,by omega,hC,hS,q⟩
end
end Go.Proofs.YtpbfiffgcgnidaaGreatDoor
