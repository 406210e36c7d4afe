import Derived.Test.YtpbfiffgcgnidaaGreatDoorYal
import Derived.Laws.IdiomStrings
import Derived.Test.YtpbfiffgcgnidaaGreatDoorY36
import Derived.Test.YtpbfiffgcgnidaaGreatDoorY37
namespace Go.Proofs.YtpbfiffgcgnidaaGreatDoor
set_option maxRecDepth 100000
set_option maxHeartbeats 4000000
set_option linter.unusedSimpArgs false
open Go.Proofs.Tryz
section
open Go.RowKit Go.WideMaps Go.Maps
def O0(w:World)(B z:Nat)(j:Value)(ps:List PR)(e:Ending)(w':World):Prop:=
 e=.returned (.bool true)/\(∃q,CG w' B z j q/\ps.length<=q.length/\q.length<=ps.length+1)/\Below B w w'/\DF w w'
theorem Rj{w:World}{B:Nat}{ao:Option Addr}{cap:Nat}{ps:List PR}(h:w.ownsRow B 44 2 (.slice ao ps.length cap) ps.length (ps.flatMap PR.ct))(i:Nat)(y:i<ps.length):
 ∃g,ao=some ⟨g,0,none⟩/\g<w.heap.size/\w.cell? ⟨g,i*2,none⟩=some (.pointer (some ⟨ps[i].bb,0,none⟩))/\w.cell? ⟨g,i*2+1,none⟩=some (.pointer (some ⟨ps[i].rb,0,none⟩)):=by
 have z:=h;rw[List.flatMap_def]at z;obtain⟨g,rfl,_,hc⟩:=E8 z (by intro r k;obtain⟨p,_,rfl⟩:=List.mem_map.1 k;rfl) (by simp) i y;have e:(ps.map PR.ct).getD i []=(ps[i]).ct:=by rw[Ap,Ba,Ar y];rfl
 have q:=hc 0 (by decide);have j:=hc 1 (by decide);rw[e]at q j;exact⟨g,rfl,(h.lt g rfl).2,q,j⟩
theorem OM{w w1:World}{B p:Nat}{t:Value}{ps:List PR}(h:CG w B p t ps){i:Nat}{x:PR}(z:ps[i]? =some x){r:(Nat×Nat)×List RC}{e:Ending}(hc:GL w B x.bb x.v r e w1)(b:E2 r.2):
 Dl w1/\0<w1.heap.size/\B<=w1.heap.size/\Se w1 B x.rb x.r x.ds:=by
 have u:=(List.getElem?_eq_some_iff.1 z).1;have hx:=h.bn.prog i x z;obtain⟨v',j⟩:=h.bn.dz z hc b;have y:(ps.set i { x with v:=v',cs:=r.2 })[i]? =some { x with v:=v',cs:=r.2 }:=by rw[DM,Ai rfl,Ai u]
 have g:=j.ref i _ y;have q:Below B w w1:=hc.2.2.below h.le (by rintro k (rfl|d);exact hx.up;exact(hx.lt k d).1);have:=q.size;have:=h.le;have:=h.pos;exact⟨h.ends.below q h.pos,by omega,by omega,g⟩
theorem Xf(w:World)(B p:Nat)(i:Value)(ps:List PR)(t:CG w B p i ps)(o:0<ps.length)(hn:ps.length<=5000000000000)(kd m:Int)(s:ByteArray)(hs:s.size<=maxLen)(lv:Value)(hk:kd<=4):
 Calls prog 10 #[.pointer (some ⟨p,0,none⟩),.agg #[.int .i64 kd,.int .i64 m,.string s,lv]] w fun e w'=>O0 w B p i ps e w':=by
 have K:=t.same;have b:=t.le;obtain⟨pv,hW,X⟩:=t.row;obtain⟨ao,cap,rfl⟩:=Au X;obtain⟨-,-,Y⟩:=EF m ps.length o (by omega);obtain⟨g,rfl,R,U,G⟩:=Rj X (Fx m ps.length) Y;have V:ps[Fx m ps.length]? =some ps[Fx m ps.length]:=Ar Y;have Z:=K _ (Aj Y);have hx:=t.bn.prog _ _ V;have S:=t.bn.ref _ _ V;generalize q0:ps[Fx m ps.length]=x at*;rw[Z]at S;have u:=hx.bq;by_cases h1:kd=1
 ·subst h1;refine(Sz w p lv m s (fun w'=>(∃q,CG w' B p i q/\ps.length<=q.length/\q.length<=ps.length+1)/\Below B w w'/\DF w w') ?_).mono fun e w' h=>h;intro W j;refine(NI W B p i ps (t.below j) hn s hs).mono ?_;rintro e w' ⟨rfl,⟨q,n,P⟩,y,a⟩;refine⟨rfl,⟨q,n,?_,?_⟩,(j.mono b).trans y,(DF.ab j).trans a⟩
  ·rw[P];split<;>omega
  ·rw[P];split<;>omega
 ·by_cases h2:kd=2
  ·subst h2;refine(QT w p g ps.length cap x.bb x.rb i lv m s (bs (Ga x.cs)) (fun w'=>Below w.heap.size w w') (fun w'=>Below w.heap.size w w') hW o (by omega) R U G ?_ ?_).mono ?_
   ·intro W ob E j Q J;have z:=hx.below j;refine(eO W B x.bb (x.cs.map RC.d) ⟨x.v,z.al,z.row⟩ u.wf (by simpa using u.bp)).mono ?_;rintro e w' ⟨rfl,y⟩;exact⟨by rw[Xm x.cs (fun c hc=>(u.bq c hc).neg)],j.trans (y.mono j.size),Q.below y,J.below y⟩
   ·intro w1 l;have k:=S.below l;refine(Zr w1 B x.rb x.cs ⟨x.r,k.al,k.row⟩ (fun c hc=>(u.bq c hc).small) u.bp).mono ?_;rintro e w' ⟨rfl,y⟩;exact⟨rfl,l.trans (y.mono l.size)⟩
   ·rintro e w' ⟨rfl,j⟩;exact⟨rfl,⟨ps,t.below j,Ab _,by omega⟩,j.mono b,DF.ab j⟩
  ·by_cases h3:kd=3
   ·subst h3;have f:=TK x.cs s u;refine(Po w p g ps.length cap x.bb x.rb i lv m s (CS x.cs s).1.1 (CS x.cs s).1.2 (fun w'=>∃W e,Below w.heap.size w W/\GL W B x.bb x.v (CS x.cs s) e w') (fun w'=>(∃q,CG w' B p i q/\ps.length<=q.length/\q.length<=ps.length+1)/\Below B w w'/\DF w w') hW o (by omega) R U G ?_ ?_).mono fun e w' h=>h
    ·intro W ob E j Q J;have z:=hx.below j;refine(XF W B x.bb x.v x.cs (Ay b j.size) z.al z.row u.bq u.wf u.bp s hs).mono ?_;intro e w' hc;exact⟨hc.1,⟨W,e,j,hc⟩,Q.only hc.2.2 (En (z.typed _ (by decide) (by decide)) Q),J.only hc.2.2 (En (z.typed _ (by decide) (by decide)) J)⟩
    ·rintro w1 ⟨W,e,j,hc⟩;obtain⟨C,M,N,k⟩:=OM (t.below j) V hc f;rw[Z]at k;refine(XA w1 C M B x.rb x.r x.cs N k.al k.row u.bp (fun c hc=>(u.bq c hc).small.bp) (fun c hc=>(u.bq c hc).small) s hs).mono ?_;intro A w2 hd;obtain⟨q,P,n,y,a⟩:=(t.below j).change V hc hd f;exact⟨hd.1,⟨q,n,by omega,by omega⟩,(j.mono b).trans y,(DF.ab j).trans a⟩
   ·by_cases O:kd=4
    ·subst O;have f:=Rx x.cs s u;refine(NN w p g ps.length cap x.bb x.rb i lv m s (Cx x.cs s).1.1 (Cx x.cs s).1.2 (fun w'=>∃W e,Below w.heap.size w W/\GL W B x.bb x.v (Cx x.cs s) e w') (fun w'=>(∃q,CG w' B p i q/\ps.length<=q.length/\q.length<=ps.length+1)/\Below B w w'/\DF w w') hW o (by omega) R U G ?_ ?_).mono fun e w' h=>h
     ·intro W ob E j Q J;have z:=hx.below j;refine(U8 W B x.bb x.v x.cs (Ay b j.size) z.al z.row u.bq u.wf u.bp s hs).mono ?_;intro e w' hc;exact⟨hc.1,⟨W,e,j,hc⟩,Q.only hc.2.2 (En (z.typed _ (by decide) (by decide)) Q),J.only hc.2.2 (En (z.typed _ (by decide) (by decide)) J)⟩
     ·rintro w1 ⟨W,e,j,hc⟩;obtain⟨C,M,N,k⟩:=OM (t.below j) V hc f;rw[Z]at k;refine(UW w1 C M B x.rb x.r x.cs N k.al k.row u.bp (fun c hc=>(u.bq c hc).small.bp) (fun c hc=>(u.bq c hc).small) s hs).mono ?_;intro A w2 hd;obtain⟨q,P,n,y,a⟩:=(t.below j).change V hc hd f;exact⟨hd.1,⟨q,n,by omega,by omega⟩,(j.mono b).trans y,(DF.ab j).trans a⟩
    ·refine(Sy w p g ps.length cap x.bb x.rb i lv kd m s hW o (by omega) R (by omega) U G).mono ?_;rintro e w' ⟨rfl,j⟩;exact⟨rfl,⟨ps,t.below j,Ab _,by omega⟩,j.mono b,DF.ab j⟩
theorem NA{w:World}{p:Addr}{v:Value}(h:w.cell? p=some v):p.block<w.heap.size:=by apply Bj;intro hn;have q:w.heap[p.block]? =none:=Pf (by omega);simp[World.cell?,q]at h
theorem GX.below{w w':World}{a:Addr}{n:Nat}{kd m:Nat->Int}{S:Nat->ByteArray}{la:Nat->Option Addr}{ll lc:Nat->Nat}(h:GX w a n kd m S la ll lc)(hb:Below w.heap.size w w'):GX w' a n kd m S la ll lc:=by intro k v;obtain⟨q,j,z,y⟩:=h k v;exact⟨by rw[hb.cell (NA q)];exact q,by rw[hb.cell (NA j)];exact j,by rw[hb.cell (NA z)];exact z,by rw[hb.cell (NA y)];exact y⟩
theorem Oc:(Gn OB).1=0:=by decide+kernel
def nX(w:World)(W:World)(k:Nat):Prop:=∃ps,CG W w.heap.size w.heap.size (.slice none 0 0) ps/\ps.length=k/\0<k/\Below w.heap.size w W
theorem PN(w:World)(z:Dl w)(q:0<w.heap.size):CG (w.alloc (.cells #[.slice none 0 0,.slice none 0 0] 29)) w.heap.size w.heap.size (.slice none 0 0) []:=by have j:=Ac w (.cells #[.slice none 0 0,.slice none 0 0] 29);exact⟨z.below j q,q,j.size,Ab _,⟨.slice none 0 0,Aw.new w [.slice none 0 0,.slice none 0 0] 29,Ak _ _ _ _⟩,⟨by simp,by simp,by simp⟩,by simp⟩
theorem nL(w:World)(o:Dl w)(f:0<w.heap.size)(ao:Option Addr)(a:Addr)(n cap:Nat)(kd m:Nat->Int)(S:Nat->ByteArray)(la:Nat->Option Addr)(ll lc:Nat->Nat)(s x z:Int)(hn:n<=4000000000000)(t:0<n->ao=some a)
 (c:GX w a n kd m S la ll lc)
 (b:∀(W:World) (ps:List PR) (j:Nat),CG W w.heap.size w.heap.size (.slice none 0 0) ps->0<ps.length->ps.length<=5000000000000->j<n->kd j<=z->Calls prog 10 #[.pointer (some ⟨w.heap.size,0,none⟩),.agg #[.int .i64 (kd j),.int .i64 (m j),.string (S j),.slice (la j) (ll j) (lc j)]] W fun e w'=>O0 W w.heap.size w.heap.size (.slice none 0 0) ps e w'):
 Calls prog 8 #[.slice ao n cap,.int .i64 s,.int .i64 x,.int .i64 z] w fun e w'=>e=.returned (.bool true)/\Below w.heap.size w w':=by
 refine eS w (nX w) ao a n cap kd m S la ll lc s x z (by omega) t (fun W v=>c.below v) ?_ ?_ ?_ ?_
 ·rintro W W' k ⟨ps,d,g,r,v⟩ q;exact⟨ps,d.below q,g,r,v.trans (q.mono v.size)⟩
 ·rintro W k ⟨ps,d,g,r,v⟩;obtain⟨pv,hW,i⟩:=d.row;obtain⟨J,pc,rfl⟩:=Au i;rw[g]at hW;exact⟨v,J,pc,hW⟩
 ·refine(NI _ _ _ _ [] (PN w o f) (by simp) OB (by unfold maxLen;decide)).mono ?_;rintro e w' ⟨rfl,⟨y,u,g⟩,q,_⟩;rw[Ai Oc]at g;exact⟨rfl,y,u,g,by omega,(Ac w _).trans q⟩
 ·rintro W k j ⟨ps,d,g,r,v⟩ l q0 Q;refine(b W ps j d (by omega) (by omega) l Q).mono ?_;rintro e w' ⟨rfl,⟨y,u,h1,h2⟩,q,p⟩;exact⟨rfl,⟨y.length,⟨y,u,rfl,by omega,v.trans q⟩,by omega⟩,p.op⟩
theorem oW(w:World)(g:Dl w)(u:0<w.heap.size)(ao:Option Addr)(a:Addr)(n cap:Nat)(kd m:Nat->Int)(S:Nat->ByteArray)(la:Nat->Option Addr)(ll lc:Nat->Nat)(hn:n<=4000000000000)(z:0<n->ao=some a)
 (v:GX w a n kd m S la ll lc)(hS:∀k,k<n->(S k).size<=maxLen):
 Calls prog 3 #[.slice ao n cap] w fun e w'=>e=.returned (.bool true)/\Below w.heap.size w w':=by
 go_enter func3,ntmps3;go_wp2_with (go_at_call 8;refine(nL w g u ao a n cap kd m S la ll lc 2 4 4 hn z v (fun W ps j b y r d t=>Xf W _ _ _ ps b y r (kd j) (m j) (S j) (hS j d) _ t)).mono ?_;rintro e w1 ⟨rfl,q⟩)
 go_ret
 exact⟨rfl,q⟩
end
section
attribute [local go_sem] AE As
open Go.RowKit Go.WideMaps Go.Maps
def Ha(w:World)(v:Value)(mk:ByteArray):Prop:=∃ao n cap,v=.slice ao n cap/\n<=1000000000000/\(0<n->∃g cs,ao=some ⟨g,0,none⟩/\Aw w g cs 9/\∀j,j<n->cs[j]? =some (.string mk))
def O4(w:World)(p:Nat):Prop:=∃(mk:ByteArray) (rows:List Value) (q wc:Nat) (cs:List Value),Aw w p [.slice (some ⟨q,0,none⟩) rows.length wc,.slice none 0 0,.string mk] 112/\rows.length<=100/\Aw w q cs 31/\(∀(j:Nat) (v:Value),rows[j]? =some v->cs[j]? =some v)/\∀v∈rows,Ha w v mk
structure E1(w:World)(B:Nat)(hv:Value)(hs:List Nat):Prop where
 row:w.ownsRow B 51 1 hv hs.length (hs.map fun p=>.pointer (some ⟨p,0,none⟩))
 all:∀p∈hs,O4 w p
theorem Ha.still{w w':World}{v:Value}{mk:ByteArray}(h:Ha w v mk)(hs:∀ob cs,Aw w ob cs 9->Aw w' ob cs 9):Ha w' v mk:=by obtain⟨ao,n,cap,h1,h2,h3⟩:=h;refine⟨ao,n,cap,h1,h2,fun hn=>?_⟩;obtain⟨g,cs,q,j,z⟩:=h3 hn;exact⟨g,cs,q,hs _ _ j,z⟩
theorem O4.still{w w':World}{p:Nat}(h:O4 w p)(h1:∀ob cs,Aw w ob cs 9->Aw w' ob cs 9)(h2:∀ob cs,Aw w ob cs 31->Aw w' ob cs 31)(h3:∀ob cs,Aw w ob cs 112->Aw w' ob cs 112):O4 w' p:=by obtain⟨mk,rows,g,wc,cs,q,j,z,y,k⟩:=h;exact⟨mk,rows,g,wc,cs,h3 _ _ q,j,h2 _ _ z,y,fun v u=>(k v u).still h1⟩
theorem XH{w w':World}{base:Nat}{e:TypeId}{size:Nat}{v:Value}{n:Nat}{xs:List Value}(h:w.ownsRow base e size v n xs)(hs:∀ob cs,Aw w ob cs e->Aw w' ob cs e):w'.ownsRow base e size v n xs:=by
 refine⟨h.1,?_⟩;rcases h.2 with h|⟨g,cap,cur,h1,h2,h3,q⟩
 ·exact .inl h
 ·refine .inr ⟨g,cap,cur,h1,h2,?_,q⟩;have:=hs g cur.toList (by unfold Aw;simpa using h3);unfold Aw at this;simpa using this
theorem E1.still{w w':World}{B:Nat}{j:Value}{hs:List Nat}(h:E1 w B j hs)(q:DF w w'):E1 w' B j hs:=
 ⟨XH h.row (q _ (by unfold MI;decide)),fun p z=>(h.all p z).still (q _ (by unfold MI;decide)) (q _ (by unfold MI;decide)) (q _ (by unfold MI;decide))⟩
theorem ZP(w:World)(p:Nat)(h:O4 w p):Calls prog 24 #[.pointer (some ⟨p,0,none⟩)] w fun e w'=>e=.returned (.bool true)/\Below w.heap.size w w':=by
 obtain⟨mk,rows,Q,wc,cs,hb,q1,K,c,Y⟩:=h;have U:=Ao Y;have V:=Ao c;have a:Hid (∀wr,Below w.heap.size w wr->wr.cell? ⟨p,0,none⟩=some (.slice (some ⟨Q,0,none⟩) rows.length wc)/\wr.cell? ⟨p,1,none⟩=some (.slice none 0 0)/\wr.cell? ⟨p,2,none⟩=some (.string mk)/\p<wr.heap.size/\Q<wr.heap.size):=by intro wr q;have j:=hb.below q;exact⟨j.cell 0,j.cell 1,j.cell 2,j.lt,(K.below q).lt⟩
 obtain⟨x,s,f,z,y⟩:=a.out w (Ag _ _);clear Y c hb;go_enter func24,ntmps24;go_wp2_with fail
 go_loopw [3] (fun m wr=>∃(i:Nat),i<=rows.length/\m=.int .i64 i/\Below w.heap.size w wr) (fun m _=>rows.length-(intOf m).toNat)
 case atStart=>exact⟨0,by omega,rfl,Ag _ _⟩
 case round=>
  clear x s f z y;obtain⟨i,hi,rfl,q⟩:=hrel;obtain⟨x,s,f,z,y⟩:=a.out _ q;by_cases u:i<rows.length
  ·have v:Hid (∀wr,Below w.heap.size w wr->wr.cell? ⟨Q,i,none⟩=some rows[i]):=by intro wr q;rw[(K.below q).cell i];exact V.out i _ (Ar u)
   have o:=v.out _ q;obtain⟨ao,n,cap,J,hn,hx⟩:=U.out rows[i] (Aj u);rw[J]at o v;clear J;go_wp2_with fail
   go_loopw [4] (fun l b=>∃(k:Nat),k<=n/\l=.int .i64 k/\Below w.heap.size w b) (fun l _=>n-(intOf l).toNat)
   case atStart=>exact⟨0,by omega,rfl,q⟩
   case round=>
    clear o q x s f z y;obtain⟨k,hk,rfl,q⟩:=hrel;obtain⟨x,s,f,z,y⟩:=a.out _ q;have o:=v.out _ q;by_cases r:k<n
    ·obtain⟨g,gs,rfl,Z,t⟩:=hx (by omega);have d:=Z.below q;have d0:wr.cell? ⟨g,k,none⟩=some (.string mk):=by rw[d.cell k];exact t k r
     have q0:=d.lt;have hq:(mk.toList != mk.toList)=false:=by simp
     clear t hx Z;go_wp2_with fail;go_region
     all_goals go_wp2_with fail
     all_goals exact⟨⟨k+1,r,by go_num,q.drew⟩,by simp[intOf];omega⟩
    ·go_wp2_with fail;exact⟨⟨i+1,u,by go_num,q⟩,by simp[intOf];omega⟩
  ·go_wp2_with fail
   go_loopw [5] (fun m b=>m=.int .i64 0/\b=wr) (fun _ _=>0)
   case atStart=>exact⟨rfl,rfl⟩
   case round=>
    obtain⟨rfl,rfl⟩:=hrel;go_wp2_with fail
    go_ret
    exact⟨rfl,q⟩
theorem fH(w:World)(B k:Nat)(m d:Value)(hs:List Nat)(hW:Aw w k [m,d] 29)(h:E1 w B d hs)(hn:hs.length<=5000000000000):Calls prog 11 #[.pointer (some ⟨k,0,none⟩)] w fun e w'=>e=.returned (.bool true)/\Below w.heap.size w w':=by
 have r:=Ao h.all;have q:=h.row;obtain⟨ao,cap,rfl⟩:=Au q;have t:w.cell? ⟨k,1,none⟩=some (.slice ao hs.length cap):=hW.cell 1;have y:=hW.lt;clear h;go_enter func11,ntmps11;go_wp2_with fail
 go_loopw [3] (fun u wr=>∃(i:Nat),i<=hs.length/\u=.int .i64 i/\Below w.heap.size w wr) (fun u _=>hs.length-(intOf u).toNat)
 case atStart=>exact⟨0,by omega,rfl,Ag _ _⟩
 case round=>
  clear t y;obtain⟨i,hi,rfl,j⟩:=hrel;have y:=(hW.below j).lt;have t:wr.cell? ⟨k,1,none⟩=some (.slice ao hs.length cap):=(hW.below j).cell 1;have q:=Ah q j;by_cases z:i<hs.length
  ·obtain⟨g,rfl,b⟩:=DO q i z;have q0:=(q.lt g rfl).2;have c0:wr.cell? ⟨g,i,none⟩=some (.pointer (some ⟨hs[i],0,none⟩)):=by rw[b];simp[z]
   have c:=Ao ((r.out hs[i] (Aj z)).still (fun ob cs h=>h.below j) (fun ob cs h=>h.below j) (fun ob cs h=>h.below j));clear b;generalize hs[i]=p at*;go_wp2_with (go_at_call 24;refine(ZP _ p c.out).mono ?_;rintro e w1 ⟨rfl,v⟩);exact⟨⟨i+1,z,by go_num,j.trans (v.mono j.size)⟩,by simp[intOf];omega⟩
  ·go_wp2_with fail
   go_ret
   exact⟨rfl,j⟩
end
section
attribute [local go_sem] AE As
open Go.RowKit Go.WideMaps Go.Maps
section
variable {P:Program} (w:World)
theorem PI(t ty e:TypeId)(i:TypeInfo)(z:Value)(base bytes:Nat)(ht:P.underlying t=some (.slice e))(l:P.info? e=some i)(Q:i.zero=some z)(f:i.bytes=bytes)
 (v:Value)(n:Nat)(xs:List Value)(b:w.ownsRow base e i.size v n xs)(a:Addr)(m c:Nat)(q:List Value)(Z:0<m)(p:q.length=m*i.size)(y:∀j u,q[j]? =some u->w.cell? (a.add j)=some u)(h1:∀u∈q,u.oneCell'=true)
 (x:n+m<=maxLen)(k:(n+m)*bytes<=140737488355328)(v':Value)(w':World)(r:(Builtin.append_ #[t,t] ty #[v,.slice (some a) m c]).run P w=.ok v' w'):v'.ownBlock=v.ownBlock\/Below w.heap.size w w':=by
 subst f;have s:=x;unfold maxLen at s;rcases b.2 with⟨rfl,rfl⟩|⟨g,cap,cur,rfl,_,J,_,_,o,_⟩
 ·rw[run_append_nil (P:=P) w t ty e i z ht l Q a m c q p y Z (by omega) (by rw[B7]at k;omega)]at r
  injection r with h2 h3
  rw[<-h3];exact .inr ((Ag _ w).drew.alloc (Ab _) _)
 ·by_cases d:n+m<=cap
  ·rw[run_append_room (P:=P) w t ty e i ht l g n cap cur J a m c q p y h1 d (by rw[p,o,<-Nat.add_mul];exact E3 _ d)]at r
   injection r with h2
   rw[<-h2];exact .inl rfl
  ·rw[run_append_grow (P:=P) w t ty e i z ht l Q ⟨g,0,none⟩ n cap xs b.1 (b.cells (g:=g) rfl) a m c q p y (by omega) (by omega) (growslice_fits (by omega) k)]at r
   injection r with h2 h3
   rw[<-h3];exact .inr ((Ag _ w).drew.alloc (Ab _) _)
theorem Lp{f:Array Oper}{rest:List Oper}{o:Oper}{a:Act}{Q:Exit->Act->World->Prop}(J:o.guard=none)(s x:Operand)(t:TypeId)(Z:o.op=.call { callee:=.builtin .append,args:=#[s,x],argTypes:=#[t,t] })
 (base:Nat)(e:TypeId)(i:TypeInfo)(z:Value)(size bytes:Nat)(ht:P.underlying t=some (.slice e))(U:P.info? e=some i)(B:i.zero=some z)(b:i.size=size)(m:i.bytes=bytes)(V:z.cells.size=size)(Y:0<size)
 (v:Value)(n:Nat)(xs:List Value)(hs:a.eval s=v)(d:w.ownsRow base e size v n xs)(l:Addr)(c:Nat)(q:List Value)(hx:a.eval x=.slice (some l) 1 c)(hl:q.length=size)(k:∀j u,q[j]? =some u->w.cell? (l.add j)=some u)(h1:∀u∈q,u.oneCell'=true)
 (p:n+1<=maxLen)(y:(n+1)*bytes<=140737488355328)(r:base<=w.heap.size)
 (h:∀g cap w',w'.ownsRow base e size (.slice (some ⟨g,0,none⟩) (n+1) cap) (n+1) (xs++q)->w.grownBy w' v.ownBlock->(some g=v.ownBlock\/Below w.heap.size w w')->wpList P f Q rest (a.put o.dst (.slice (some ⟨g,0,none⟩) (n+1) cap)) w'):wpList P f Q (o::rest) a w:=by
 refine wpList_plain J fun _ R=>?_;obtain⟨v',w',G,h2,h3,_⟩:=run_append_own (P:=P) w base t o.type e i z size bytes ht U B b m V Y v n xs d l 1 c q (by omega) k h1 p y r;subst b;have K:=PI (P:=P) w t o.type e i z base bytes ht U B m v n xs d l 1 c q (by decide) (by omega) k h1 p y v' w' G;unfold Oper.wp execOp;simp only[Z,resolve,invoke,builtin,Sem.run_bind,Sem.run_pure,Result.andThen_ok,List.map_toArray,A6,KM,hs,hx,G];rcases h2.2 with⟨_,hn⟩|⟨g,cap,cur,rfl,_⟩
 ·omega
 ·exact R _ _ (h g cap w' h2 h3 (by
   rcases K with h|h
   ·exact .inl h
   ·exact .inr h))
end
theorem Nu{w:World}{base g n cap:Nat}{e:TypeId}{xs:List Value}(h:w.ownsRow base e 1 (.slice (some ⟨g,0,none⟩) n cap) n xs):∃cs,Aw w g cs e/\∀j,j<n->cs[j]? =xs[j]? :=by
 rcases h.2 with⟨h1,_⟩|⟨g',q0,cur,h1,_,h3,_,_,_,q⟩
 ·simp at h1
 ·simp only[Bx,Al,BM,Dx]at h1;obtain⟨rfl,_,_⟩:=h1;refine⟨cur.toList,by unfold Aw;simpa using h3,fun j hj=>?_⟩;rw[<-q,Io,Ai (by omega)]
theorem Ha.en{w:World}{base n:Nat}{ao:Option Addr}{cap:Nat}{mk:ByteArray}{xs:List Value}(h:w.ownsRow base 9 1 (.slice ao n cap) n xs)(hx:∀j,j<n->xs[j]? =some (.string mk))(hn:n<=1000000000000):Ha w (.slice ao n cap) mk:=by
 refine⟨ao,n,cap,rfl,hn,fun h0=>?_⟩;rcases h.2 with⟨_,h2⟩|⟨g,q0,cur,h1,_⟩
 ·omega
 ·simp only[Bx]at h1;obtain⟨rfl,_,_⟩:=h1;obtain⟨cs,hb,hc⟩:=Nu h;exact⟨g,cs,rfl,hb,fun j q=>by rw[hc j q];exact hx j q⟩
theorem Ha.append{w w':World}{v lv:Value}{mk:ByteArray}{N g cap base:Nat}{xs:List Value}(h:Ha w v mk)(y:∃ao n c,v=.slice ao n c/\n<=N)(d:w'.ownsRow base 9 1 (.slice (some ⟨g,0,none⟩) (N+1) cap) (N+1) xs)(hx:∀j,j<N+1->xs[j]? =some (.string mk))(m:w.grownBy w' lv.ownBlock)(t:some g=lv.ownBlock\/Below w.heap.size w w'):Ha w' v mk:=by
 obtain⟨ao,n,c,rfl,hn,x⟩:=h;obtain⟨q0,n',c',e,y⟩:=y;simp only[Bx]at e;obtain⟨-,rfl,-⟩:=e;refine⟨ao,n,c,rfl,hn,fun r=>?_⟩;obtain⟨k,cs,rfl,hb,q⟩:=x r;by_cases z:lv.ownBlock=some k
 ·rcases t with e|p
  ·rw[z]at e;simp only[Al]at e;subst e;obtain⟨cs',u,b⟩:=Nu d;exact⟨g,cs',rfl,u,fun j hj=>by rw[b j (by omega)];exact hx j (by omega)⟩
  ·exact⟨k,cs,rfl,hb.below p,q⟩
 ·exact⟨k,cs,rfl,hb.grown m z,q⟩
theorem Md{w:World}{p:Nat}{ps:List Value}{t t':TypeId}(q:Aw w p ps t')(j:t≠t')(o:Nat)(x:Value):∀ob cs,Aw w ob cs t->Aw (w.setCell ⟨p,o,none⟩ x) ob cs t:=by intro ob cs h;refine h.setOther ⟨p,o,none⟩ x (fun e=>j ?_);have z:ob=p:=e;subst z;unfold Aw at h q;rw[h]at q;simp at q;exact q.2
theorem MT{w w':World}{base size n:Nat}{e t:TypeId}{v:Value}{xs:List Value}(z:w.ownsRow base e size v n xs)(j:w.grownBy w' v.ownBlock)(q:t≠e):∀ob cs,Aw w ob cs t->Aw w' ob cs t:=fun _ _ h=>h.grown j (Av z h q)
end
section
attribute [local go_sem] AE As
open Go.RowKit Go.WideMaps Go.Maps
theorem bS(w:World)(x:Int):(convert 132 9 (.slice (some ⟨w.heap.size,0,none⟩) 1 1)).run prog (w.alloc (.cells #[.int .u8 x] 5))=.ok (.string (ByteArray.empty.push (UInt8.ofNat x.toNat))) (w.alloc (.cells #[.int .u8 x] 5)):=by rw[run_convert_bytes_string _ 132 9 5 _ 1 1 underlying132 underlying5 underlying9];rw[run_bytesToString _ ⟨w.heap.size,0,none⟩ 1 1 [x] (run_loadCells_list _ _ [.int .u8 x] (fun j v q=>AS w [.int .u8 x] 5 j v q))];rfl
theorem kJ(w:World)(k:Nat)(b:Value)(v:Option Addr)(n hc:Nat)(hW:Aw w k [b,.slice v n hc] 29)(hn:n<=5000000000000):Calls prog 83 #[.pointer (some ⟨k,0,none⟩)] w fun e w'=>∃mk:ByteArray,e=.returned (.string mk)/\mk.size<=100/\Below w.heap.size w w':=by
 have p1:w.cell? ⟨k,1,none⟩=some (.slice v n hc):=hW.cell 1;have q2:=hW.lt;go_enter func83,ntmps83;go_wp2_with fail
 go_loopw [3,4] (fun sv nv wr=>∃(s:ByteArray) (m i:Nat),sv=.string s/\nv=.int .i64 m/\s.size=1+i/\s.size<=100/\Hid (m*10 ^ i<=5000000000000)/\Below w.heap.size w wr) (fun _ nv _=>(intOf nv).toNat)
 case atStart=>exact⟨_,n,0,rfl,rfl,rfl,by decide,(by show _<=_;omega),Ag _ _⟩
 case round=>
  obtain⟨s,m,i,rfl,rfl,hs,y,q,j⟩:=hrel;by_cases g:0<m
  ·have hi:i<13:=by apply Bj;intro q1;have h1:=Nat.pow_le_pow_right (n:=10) (by omega) (show 13<=i by omega);have h2:=Nat.le_mul_of_pos_left (10 ^ i) g;have:=q.out;omega
   have q0:=bS wr;have q4:¬9223372036854775807<s.size+1:=by omega
   have q3:m<=5000000000000:=Ay (nK m (Nat.pow_pos (by omega))) q.out;have u:Hid (m / 10*10 ^ (i+1)<=5000000000000):=by show _<=_;refine Ay ?_ q.out;rw[Nat.pow_succ,YX (10 ^ i) 10,<-Nat.mul_assoc];exact E3 _ (Nat.div_mul_le_self m 10)
   go_wp2_with fail;rw[show(m:Int) / 10=((m / 10:Nat):Int) by omega];refine⟨⟨_,m / 10,i+1,rfl,rfl,?_,?_,u,j.alloc j.size _⟩,?_⟩
   ·rw[ByteArray.size_append,ByteArray.size_push];show s.size+1=_;omega
   ·rw[ByteArray.size_append,ByteArray.size_push];show s.size+1<=_;omega
   ·simp only[intOf,Int.toNat_natCast];omega
  ·have z:m=0:=by omega
   subst z;go_wp2_with fail
   go_ret
   exact⟨s,rfl,y,j⟩
theorem gC:(prog.info? 31).map (fun i=>(i.zero,i.size,i.bytes))=some (some (.slice none 0 0),1,24):=by kernel_rfl
theorem kO:(prog.info? 51).map (fun i=>(i.zero,i.size,i.bytes))=some (some (.pointer none),1,8):=by kernel_rfl
theorem eK(k n:Nat)(v:Value)(xs:List Value)(hx:xs.length=n)(hk:k<n):(List.replicate k v++xs.drop k).set k v=List.replicate (k+1) v++xs.drop (k+1):=by rw[List.set_append_right _ _ (by simp),List.length_replicate,Nat.sub_self,Aa (by omega),List.set_cons_zero,Sc,Bm];rfl
def KX(w:World)(rows:List Value)(mk:ByteArray)(N:Nat):Prop:=∀v∈rows,Ha w v mk/\∃ao n c,v=.slice ao n c/\n<=N
theorem KX.still{w w':World}{rows:List Value}{mk:ByteArray}{N:Nat}(h:KX w rows mk N)(hs:∀ob cs,Aw w ob cs 9->Aw w' ob cs 9):KX w' rows mk N:=fun v q=>⟨(h v q).1.still hs,(h v q).2⟩
theorem KX.append{w w':World}{rows:List Value}{lv:Value}{mk:ByteArray}{N g cap base:Nat}{xs:List Value}(h:KX w rows mk N)(q:w'.ownsRow base 9 1 (.slice (some ⟨g,0,none⟩) (N+1) cap) (N+1) xs)(hx:∀j,j<N+1->xs[j]? =some (.string mk))(y:w.grownBy w' lv.ownBlock)(z:some g=lv.ownBlock\/Below w.heap.size w w'):KX w' rows mk (N+1):=by intro v k;obtain⟨h1,ao,n,c,h2,h3⟩:=h v k;exact⟨h1.append ⟨ao,n,c,h2,h3⟩ q hx y z,ao,n,c,h2,by omega⟩
theorem Tu(w0 w:World)(B l:Nat)(pv r:Value)(hs:List Nat)(u3:B<=w0.heap.size)(j5:Aw w0 l [pv,r] 29)(W:E1 w0 B r hs)(z:Below w0.heap.size w0 w)(k5:hs.length<=5000000000000)(b:Option Addr)(n c:Nat)(xs:List Value)(x:w.ownsRow w0.heap.size 9 1 (.slice b n c) n xs)(hn:n<=100000000000):
 Calls prog 52 #[.pointer (some ⟨l,0,none⟩),.slice b n c] w fun e w'=>e=.returned (.tuple #[])/\∃z8 p,Aw w' l [pv,z8] 29/\E1 w' B z8 (hs++[p])/\A3 (fun k=>k=l\/r.ownBlock=some k) w0 w':=by
 obtain⟨i1,k2,v4,v5,v6⟩:=Bc Hk;obtain⟨j1,j6,y1,y2,y3⟩:=Bc gC;obtain⟨k1,k3,k8,k9,v0⟩:=Bc kO;have y4:=Ao W.row;obtain⟨ho,hc,rfl⟩:=Au W.row;have q5:=Ao (kJ w l pv ho hs.length hc (j5.below z) k5);go_enter func52,ntmps52;go_wp2_with (go_at_call 83;refine(q5.out).mono ?_;rintro e w1 ⟨mk,rfl,u7,K⟩);have k7:=K.size;have z5:=z.size;have X:=Aw.new w1 [.slice none 0 0,.slice none 0 0,.string mk] 112;have j8:=Ah (Ah x K) (Ac w1 (.cells #[.slice none 0 0,.slice none 0 0,.string mk] 112));have q7:=(z.trans (K.mono z5)).alloc (Ay z5 k7) (.cells #[.slice none 0 0,.slice none 0 0,.string mk] 112);have v3:xs.length=n:=by simpa using x.1
 clear q5;generalize k6:w1.heap.size=p at*;have z3:w0.heap.size<=p:=by omega
 go_loopw [5] (fun iv wr=>∃(k:Nat),k<=n/\iv=.int .i64 k/\wr.ownsRow w0.heap.size 9 1 (.slice b n c) n (List.replicate k (.string mk)++xs.drop k)/\Aw wr p [.slice none 0 0,.slice none 0 0,.string mk] 112/\Below w0.heap.size w0 wr) (fun iv _=>n-(intOf iv).toNat)
 case atStart=>exact⟨0,by omega,rfl,j8,X,q7⟩
 case round=>
  clear j8 X q7 K z x k6;obtain⟨k,hk,rfl,x,m,z⟩:=hrel;have j9:=m.lt;have p2:wr.cell? ⟨p,2,none⟩=some (.string mk):=m.cell 2;have p0:wr.cell? ⟨p,0,none⟩=some (.slice none 0 0):=m.cell 0;have fP:=m.frozen;by_cases q2:k<n
  ·obtain⟨g,rfl,hg⟩:=DO x k q2;have u5:=(x.lt g rfl).2;have y9:=(x.lt g rfl).1;obtain⟨cs,y8,k0⟩:=Nu x;have fG:=y8.frozen;have HL:=Ao (x.stored k (.string mk)).1;rw[eK k n (.string mk) xs v3 q2]at HL;have k4:p≠g:=fun e=>by subst e;exact Av x m (by decide) rfl
   obtain⟨cv,u4⟩:∃cv,wr.cell? ⟨g,k,none⟩=some cv:=by rw[hg];refine⟨_,Ar ?_⟩;have:=x.1;omega
   clear hg k0;go_wp2_with fail;exact⟨⟨k+1,q2,by go_num,HL.out,m.setOther ⟨g,k,none⟩ _ k4,z.setCell (p:=⟨g,k,none⟩) y9 _⟩,by simp[intOf];omega⟩
  ·have j7:k=n:=by omega
   have HL:=Ao (show wr.ownsRow w0.heap.size 9 1 (.slice b n c) n (List.replicate n (.string mk)) by
    rw[j7,Ex (by omega),BC]at x
    exact x)
   have Z:=z.size;clear j7 x;have E:=Ak (wr.alloc (.cells #[.slice b n c] 31)) w0.heap.size 31 1;go_wp2_with (at_builtin;refine Bv _ rfl _ _ 109 rfl w0.heap.size 31 j1 _ 1 24 underlying109 j6 y1 y2 y3 rfl (by decide) (.slice none 0 0) 0 [] rfl (by exact E) ⟨wr.heap.size,0,none⟩ 1 1 [.slice b n c] rfl (by decide) rfl (AS _ _ _) (by intro u Y;simp at Y;subst Y;rfl) (by unfold maxLen;omega) (by omega) (by simp;omega) ?_;intro Q wc w2 q3 R v1;have y:=(m.alloc (.cells #[.slice b n c] 31)).grown R (by simp[Value.ownBlock]);have q0:w2.cell? ⟨p,0,none⟩=some (.slice none 0 0):=y.cell 0;have y5:=y.frozen;have z0:=y.lt);have V:w2.ownsRow w0.heap.size 9 1 (.slice b n c) n (List.replicate n (.string mk)):=(HL.out.alloc _).kept R (by cases b with|none=>exact .inl rfl|some a=>exact .inr (by simp[Value.ownBlock]));have q6:Below w0.heap.size w0 w2:=(z.alloc Z _).grown R (by simp;omega) (by simp[Value.ownBlock]);have j0:KX w2 [.slice b n c] mk n:=by intro v r;simp at r;subst r;exact⟨Ha.en V (fun j hj=>by simp[hj]) (by omega),b,n,c,rfl,Ab _⟩
   have A:=Md (t:=9) y (by decide) 0 (.slice (some ⟨Q,0,none⟩) (0+1) wc)
   have s:Hid (Aw (w2.setCell ⟨p,0,none⟩ (.slice (some ⟨Q,0,none⟩) (0+1) wc)) p [.slice (some ⟨Q,0,none⟩) (0+1) wc,.slice none 0 0,.string mk] 112/\(w2.setCell ⟨p,0,none⟩ (.slice (some ⟨Q,0,none⟩) (0+1) wc)).ownsRow w0.heap.size 9 1 (.slice b (n+0) c) (n+0) (List.replicate (n+0) (.string mk))/\(w2.setCell ⟨p,0,none⟩ (.slice (some ⟨Q,0,none⟩) (0+1) wc)).ownsRow w0.heap.size 31 1 (.slice (some ⟨Q,0,none⟩) (0+1) wc) (0+1) [.slice b n c]/\KX (w2.setCell ⟨p,0,none⟩ (.slice (some ⟨Q,0,none⟩) (0+1) wc)) [.slice b n c] mk (n+0)/\Below w0.heap.size w0 (w2.setCell ⟨p,0,none⟩ (.slice (some ⟨Q,0,none⟩) (0+1) wc))):=
    ⟨y.setCell 0 _,AJ V _ _ (Av V y (by decide)),AJ q3 _ _ (Av q3 y (by decide)),j0.still A,q6.setCell (p:=⟨p,0,none⟩) z3 _⟩
   clear A j0 q6 V q3 R v1 y q0 y5 E HL z m p0 p2 fP
   go_loopw [1,6] (fun lv iv wr=>∃(k:Nat) (lo:Option Addr) (lc Q wc:Nat) (rows:List Value),k<=8/\lv=.slice lo (n+k) lc/\iv=.int .i64 k/\rows.length=k+1/\Aw wr p [.slice (some ⟨Q,0,none⟩) (k+1) wc,.slice none 0 0,.string mk] 112/\wr.ownsRow w0.heap.size 9 1 (.slice lo (n+k) lc) (n+k) (List.replicate (n+k) (.string mk))/\wr.ownsRow w0.heap.size 31 1 (.slice (some ⟨Q,0,none⟩) (k+1) wc) (k+1) rows/\KX wr rows mk (n+k)/\Below w0.heap.size w0 wr) (fun _ iv _=>8-(intOf iv).toNat)
   case atStart=>exact⟨0,b,c,Q,wc,[.slice b n c],by omega,rfl,rfl,rfl,s.out.1,s.out.2.1,s.out.2.2.1,s.out.2.2.2.1,s.out.2.2.2.2⟩
   case round=>
    clear s z0 j9 Z;obtain⟨q,lo,lc,N,M,rows,hq,rfl,rfl,z4,m,hL,hR,j2,z⟩:=hrel;have j9:=m.lt;have p2:wr.cell? ⟨p,2,none⟩=some (.string mk):=m.cell 2;have Z:=z.size;by_cases u8:q<8
    ·go_wp2_with (first|(at_builtin;have _t:=C;(refine Bv _ rfl _ _ 109 rfl w0.heap.size 31 j1 _ 1 24 underlying109 j6 y1 y2 y3 rfl (by decide) (.slice (some ⟨N,0,none⟩) (q+1) M) (q+1) rows rfl (by exact G.alloc _) ⟨w3.heap.size,0,none⟩ 1 1 [.slice (some ⟨L,0,none⟩) (n+q+1) I] rfl (by decide) rfl (AS _ _ _) (by intro u Y;simp at Y;subst Y;rfl) (by unfold maxLen;omega) (by omega) (by simp;omega) ?_);intro g4 c4 w4 z1 P u9;have d:=(U.alloc (.cells #[.slice (some ⟨L,0,none⟩) (n+q+1) I] 31)).grown P (Av G U (by decide));have r0:w4.cell? ⟨p,0,none⟩=some (.slice (some ⟨N,0,none⟩) (q+1) M):=d.cell 0;have u1:=d.frozen;have v8:=d.lt)|(at_builtin;refine Lp _ rfl _ _ 31 rfl w0.heap.size 9 i1 _ 1 16 underlying31 k2 v4 v5 v6 rfl (by decide) (.slice lo (n+q) lc) (n+q) (List.replicate (n+q) (.string mk)) rfl (by exact hL.alloc _) ⟨wr.heap.size,0,none⟩ 1 [.string mk] rfl rfl (AS _ _ _) (by intro u Y;simp at Y;subst Y;rfl) (by unfold maxLen;omega) (by omega) (by simp;omega) ?_;intro L I w3 q4 J v2;have U:=(m.alloc (.cells #[.string mk] 9)).grown J (Av hL m (by decide));have G:=(hR.alloc (.cells #[.string mk] 9)).kept J (Em hR hL (by decide));have s0:w3.cell? ⟨p,0,none⟩=some (.slice (some ⟨N,0,none⟩) (q+1) M):=U.cell 0;have v7:=U.lt;have C:=True.intro;have u0:=J.size));have C:∀j,j<n+q+1->(List.replicate (n+q) (Value.string mk)++[Value.string mk])[j]? =some (.string mk):=by intro j hj;rw[<-Sc];simp[hj]
     have j3:=(j2.still (fun _ _ h=>h.alloc (.cells #[.string mk] 9))).append (lv:=.slice lo (n+q) lc) q4 C J v2;have q8:w3.ownsRow w0.heap.size 9 1 (.slice (some ⟨L,0,none⟩) (n+q+1) I) (n+q+1) (List.replicate (n+q+1) (.string mk)):=by rw[Sc];exact q4
     have y7:=Ha.en q4 C (by omega);have O:∀ob cs,Aw w3 ob cs 9->Aw w4 ob cs 9:=fun ob cs h=>MT (G.alloc _) P (by decide) ob cs (h.alloc _);have z7:=Md (t:=9) d (by decide) 0 (.slice (some ⟨g4,0,none⟩) (q+1+1) c4);have q9:=(q8.alloc (.cells #[.slice (some ⟨L,0,none⟩) (n+q+1) I] 31)).kept P (Em q8 G (by decide));have H:Below w0.heap.size w0 w3:=(z.alloc Z _).grown J (by simp;omega) (A9 hL);have y6:Below w0.heap.size w0 w4:=(H.alloc H.size _).grown P (by have:=H.size;simp;omega) (A9 hR)
     have j4:KX w4 (rows++[.slice (some ⟨L,0,none⟩) (n+q+1) I]) mk (n+q+1):=by
      intro v r;rcases List.mem_append.1 r with r|r
      ·exact(j3.still O) v r
      ·simp at r;subst r;exact⟨y7.still O,_,_,_,rfl,Ab _⟩
     exact⟨⟨q+1,some ⟨L,0,none⟩,I,g4,c4,rows++[.slice (some ⟨L,0,none⟩) (n+q+1) I],by omega,rfl,by go_num,by simp[z4],d.setCell 0 _,AJ q9 _ _ (Av q9 d (by decide)),AJ z1 _ _ (Av z1 d (by decide)),j4.still z7,y6.setCell (p:=⟨p,0,none⟩) z3 _⟩,by simp[intOf];omega⟩
    ·have hW:=j5.below z;have hH:=Ah y4.out z;have g1:wr.cell? ⟨l,1,none⟩=some (.slice ho hs.length hc):=hW.cell 1;have u6:=hW.lt;go_wp2_with (at_builtin;refine Bv _ rfl _ _ 27 rfl B 51 k1 _ 1 8 underlying27 k3 k8 k9 v0 rfl (by decide) (.slice ho hs.length hc) hs.length _ rfl (by exact hH.alloc _) ⟨wr.heap.size,0,none⟩ 1 1 [.pointer (some ⟨p,0,none⟩)] rfl (by decide) rfl (AS _ _ _) (by intro u Y;simp at Y;subst Y;rfl) (by unfold maxLen;omega) (by omega) (by simp;omega) ?_;intro g5 c5 w5 z2 q1 g0;have f:=(hW.alloc (.cells #[.pointer (some ⟨p,0,none⟩)] 51)).grown q1 (Av hH hW (by decide));have u2:=f.frozen;have v9:=f.lt;have t1:w5.cell? ⟨l,1,none⟩=some (.slice ho hs.length hc):=f.cell 1)
     go_end0
     have o:∀t,t≠51->t≠29->∀ob cs,Aw wr ob cs t->Aw (w5.setCell ⟨l,1,none⟩ (.slice (some ⟨g5,0,none⟩) (hs.length+1) c5)) ob cs t:=fun t h1 h2 ob cs h=>Md f h2 1 _ ob cs (MT (hH.alloc _) q1 h1 ob cs (h.alloc _));obtain⟨cs,z9,y0⟩:=Nu hR;refine⟨rfl,.slice (some ⟨g5,0,none⟩) (hs.length+1) c5,p,f.setCell 1 _,⟨?_,?_⟩,?_⟩
     ·rw[Am,A8];exact AJ z2 _ _ (Av z2 f (by decide))
     ·intro p' i;rcases List.mem_append.1 i with i|i
      ·exact(W.all p' i).still (fun ob cs h=>o _ (by decide) (by decide) ob cs (h.below z)) (fun ob cs h=>o _ (by decide) (by decide) ob cs (h.below z)) (fun ob cs h=>o _ (by decide) (by decide) ob cs (h.below z))
      ·simp at i;subst i;refine⟨mk,rows,N,M,cs,?_,by omega,o _ (by decide) (by decide) _ _ z9,?_,fun v r=>(j2 v r).1.still (o _ (by decide) (by decide))⟩
       ·rw[z4];exact o _ (by decide) (by decide) _ _ m
       ·intro j v hj;rw[y0 j (by have:=(List.getElem?_eq_some_iff.1 hj).1;omega)];exact hj
     ·exact A3.setCell (S:=fun k=>k=l\/(Value.slice ho hs.length hc).ownBlock=some k) (p:=⟨l,1,none⟩) (A3.trans (S:=fun k=>k=l\/(Value.slice ho hs.length hc).ownBlock=some k) (S':=fun k=>k=l\/(Value.slice ho hs.length hc).ownBlock=some k) (A3.ab (z.alloc Z _)) (A3.cr q1 (fun k hk=>Or.inr hk)) (fun k _ hk=>hk)) (.inl (.inl rfl)) _
theorem UL(w:World)(q g n cap bb rb:Nat)(v lv:Value)(m:Int)(s:ByteArray)(Q:World->Prop)(hW:Aw w q [.slice (some ⟨g,0,none⟩) n cap,v] 29)(hn:0<n)(j:n<=5000000000001)(hg:g<w.heap.size)
 (c0:w.cell? ⟨g,Fx m n*2,none⟩=some (.pointer (some ⟨bb,0,none⟩)))(c1:w.cell? ⟨g,Fx m n*2+1,none⟩=some (.pointer (some ⟨rb,0,none⟩)))
 (k:∀W,Below w.heap.size w W->Calls prog 22 #[.pointer (some ⟨q,0,none⟩),.agg #[.pointer (some ⟨bb,0,none⟩),.pointer (some ⟨rb,0,none⟩)],.string s] W fun e w'=>e=.returned (.bool true)/\Q w'):
 Calls prog 10 #[.pointer (some ⟨q,0,none⟩),.agg #[.int .i64 6,.int .i64 m,.string s,lv]] w fun e w'=>e=.returned (.bool true)/\Q w':=by
 obtain⟨f1,f2,f3⟩:=EF m n hn j;have p0:w.cell? ⟨q,0,none⟩=some (.slice (some ⟨g,0,none⟩) n cap):=hW.cell 0;have q0:=hW.lt;have q1:¬(n:Int)=0:=by omega
 generalize Fx m n=i at*;have y:=Kn w (.cells #[.int .i64 6,.int .i64 m,.string s,lv] 33) (.cells #[.pointer (some ⟨bb,0,none⟩),.pointer (some ⟨rb,0,none⟩)] 44);go_enter func10,ntmps10;go_wp2_with fail;go_region;go_wp2_with (go_at_call 22;refine(k _ (by exact y)).mono ?_;rintro e w1 ⟨rfl,z⟩)
 go_ret
 exact⟨rfl,z⟩
theorem hY(w:World)(o bb rb:Nat)(s:ByteArray)(m:Value->Int->Int->World->Prop)(n:Value->Value->World->Prop)(x:Value->World->Prop)(f:World->Prop)
 (l:Hid (∀W,Below w.heap.size w W->Calls prog 49 #[.pointer (some ⟨bb,0,none⟩),.string s] W fun e w'=>∃c p r q pl,e=.returned (.tuple #[.slice c p r,.int .i64 q,.int .i64 pl])/\m (.slice c p r) q pl w'/\Below W.heap.size W w'))
 (Q:Hid (∀v q pl W,m v q pl W->Calls prog 50 #[.pointer (some ⟨rb,0,none⟩),.string s] W fun e w'=>∃t d b,e=.returned (.tuple #[.slice t d b,.int .i64 q,.int .i64 pl])/\n v (.slice t d b) w'))
 (J:Hid (∀v u W,n v u W->Calls prog 51 #[v,u] W fun e w'=>e=.returned (.bool true)/\x v w'))
 (i:Hid (∀v W,x v W->Calls prog 52 #[.pointer (some ⟨o,0,none⟩),v] W fun e w'=>e=.returned (.tuple #[])/\f w')):
 Calls prog 22 #[.pointer (some ⟨o,0,none⟩),.agg #[.pointer (some ⟨bb,0,none⟩),.pointer (some ⟨rb,0,none⟩)],.string s] w fun e w'=>e=.returned (.bool true)/\f w':=by
 have a:=Aw.new w [.pointer (some ⟨bb,0,none⟩),.pointer (some ⟨rb,0,none⟩)] 44;have Z:=Ac w (.cells #[.pointer (some ⟨bb,0,none⟩),.pointer (some ⟨rb,0,none⟩)] 44);go_enter func22,ntmps22;go_wp2_with (first|(go_at_call 49;refine(l.out _ Z).mono ?_;rintro e w1 ⟨c,p,r,q,pl,rfl,z,j⟩;have x1:w1.cell? ⟨w.heap.size,1,none⟩=some (.pointer (some ⟨rb,0,none⟩)):=(a.below j).cell 1;have q0:=(a.below j).lt)|(go_at_call 50;refine(Q.out _ _ _ _ z).mono ?_;rintro e w2 ⟨t,d,b,rfl,y⟩)|(go_at_call 51;refine(J.out _ _ _ y).mono ?_;rintro e w3 ⟨rfl,k⟩)|(go_at_call 52;refine(i.out _ _ k).mono ?_;rintro e w4 ⟨rfl,g⟩))
 go_ret
 exact⟨rfl,g⟩
theorem SH(w:World)(b1 b2:Nat)(d t:Option Addr)(r p:Nat)(L:List B8)(h1:w.ownsRow b1 9 1 (.slice d L.length r) L.length (L.map fun z=>.string (bs z)))(h2:w.ownsRow b2 9 1 (.slice t L.length p) L.length (L.map fun z=>.string (bs z)))(hn:L.length<=1000000000000):
 Calls prog 51 #[.slice d L.length r,.slice t L.length p] w fun e w'=>e=.returned (.bool true)/\Below w.heap.size w w':=by
 have q2:(((L.length:Nat):Int) != ((L.length:Nat):Int))=false:=by simp
 go_enter func51,ntmps51;go_wp2_with fail
 go_loopw [5] (fun b wr=>∃(k:Nat),k<=L.length/\b=.int .i64 k/\Below w.heap.size w wr) (fun b _=>L.length-(intOf b).toNat)
 case atStart=>exact⟨0,by omega,rfl,Ag _ _⟩
 case round=>
  obtain⟨k,hk,rfl,u⟩:=hrel;have j:=Ah h1 u;have y:=Ah h2 u;by_cases q:k<L.length
  ·obtain⟨g,rfl,c⟩:=DO j k q;obtain⟨g2,rfl,v⟩:=DO y k q;have d1:wr.cell? ⟨g,k,none⟩=some (.string (bs L[k])):=by rw[c];simp[q]
   have d2:wr.cell? ⟨g2,k,none⟩=some (.string (bs L[k])):=by rw[v];simp[q]
   have q1:=(j.lt g rfl).2;have q0:=(y.lt g2 rfl).2;have hq:((bs L[k]).toList != (bs L[k]).toList)=false:=by simp
   clear c v;generalize bs L[k]=z at*;go_wp2_with fail;go_region
   all_goals go_wp2_with fail
   all_goals exact⟨⟨k+1,q,by go_num,u.drew⟩,by simp[intOf];omega⟩
  ·go_wp2_with fail
   go_ret
   exact⟨rfl,u⟩
end
end Go.Proofs.YtpbfiffgcgnidaaGreatDoor
