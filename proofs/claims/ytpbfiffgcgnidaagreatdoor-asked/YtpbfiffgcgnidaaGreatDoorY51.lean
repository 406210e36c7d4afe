import Derived.Test.YtpbfiffgcgnidaaGreatDoorYal
import Derived.Test.YtpbfiffgcgnidaaGreatDoorTie
import Derived.Test.YtpbfiffgcgnidaaGreatDoorCards
import Derived.Carry
import Derived.Test.YtpbfiffgcgnidaaGreatDoorY49
import Derived.Test.YtpbfiffgcgnidaaGreatDoorY50
namespace Go.Proofs.YtpbfiffgcgnidaaGreatDoor
set_option maxRecDepth 100000
set_option maxHeartbeats 4000000
set_option linter.unusedSectionVars false
set_option linter.unusedSimpArgs false
open Go.Proofs.Tryz
section
open Go.RowKit Go.WideMaps Go.Maps
variable [DecidableEq R3] [DecidableEq A4]
theorem kC(w:World)(d:Dl w)(m:0<w.heap.size)(base rb:Nat)(v:Value)(cs:List RC)(r:Aw w rb [v] 76)(t:Ck w base v cs)(hF:E2 cs)(s:ByteArray)(hs:s.size<=maxLen):
 Calls prog 50 #[.pointer (some ⟨rb,0,none⟩),.string s] w fun e w'=>∃b g u n pl L,e=.returned (.tuple #[.slice b g u,.int .i64 n,.int .i64 pl])/\YW cs s n pl L/\w'.ownsRow w.heap.size 9 1 (.slice b g u) L.length (L.map fun z=>.string (bs z))/\Below w.heap.size w w':=by
 by_cases q:(Cn cs s).1=0
 ·have hq:∃a,B0 s=some a/\Cn cs s=(0,0):=by
   unfold Cn at q⊢
   split at q
   ·simp at q
   ·rename_i p;rw[Af p]
    split at q
    ·simp at q
    ·rename_i a x
     split at q
     ·simp at q
     ·rename_i hn;exact⟨a,x,Af hn⟩
  obtain⟨a,k,hok⟩:=hq;by_cases j:2000<Hb cs
  ·refine(Zv w d m base rb v cs r t hF s hs q j).mono ?_;rintro e w' ⟨rfl,y⟩;refine⟨none,0,0,1,0,[],rfl,?_,Ak _ _ _ _,y⟩;unfold YW;rw[Ai q,Ai j];exact⟨rfl,rfl,rfl⟩
  ·refine(eL w d m base rb v cs r t hF s hs hok j a k).mono ?_;rintro e w' ⟨b,g,u,rfl,H,h1,h2,f,y⟩;refine⟨b,g,u,0,0,_,rfl,?_,f,y⟩;unfold YW;rw[Ai q,Af j];exact⟨rfl,rfl,a,k,H,h1,h2,rfl⟩
 ·refine(Zw w d m base rb v cs r t hF.bp (fun c hc=>(hF.bq c hc).small.bp) s hs q).mono ?_;rintro e w' ⟨rfl,y⟩;refine⟨none,0,0,_,_,[],rfl,?_,Ak _ _ _ _,y⟩;unfold YW;rw[Af q];exact⟨rfl,rfl,rfl⟩
theorem cM{cs:List RC}(hF:E2 cs){s:ByteArray}{q pl:Int}{L:List B8}(h:Sa cs s q pl L):L.length<=2040:=by
 unfold Sa at h
 split at h
 ·split at h
  ·rw[h.2.2];simp
  ·rename_i q0;obtain⟨_,_,a,_,q1,h1,h2,rfl⟩:=h;rw[PL,AK];have:=LH hF h1 (fun b hb=>((h2 b).1 hb).1);omega
 ·rw[h.2.2];simp
theorem lD(w:World)(B g:Nat)(c d:Value)(hs:List Nat)(bb rb:Nat)(K V:Value)(cs:List RC)(x:B<=w.heap.size)(P:Dl w)(M:0<w.heap.size)(hW:Aw w g [c,d] 29)(C:E1 w B d hs)(f:hs.length<=5000000000000)(J:Ur w B bb K cs)(hR:Se w B rb V cs)(s:ByteArray)(b:s.size<=maxLen):
 Calls prog 22 #[.pointer (some ⟨g,0,none⟩),.agg #[.pointer (some ⟨bb,0,none⟩),.pointer (some ⟨rb,0,none⟩)],.string s] w fun e w'=>e=.returned (.bool true)/\∃y p,Aw w' g [c,y] 29/\E1 w' B y (hs++[p])/\A3 (fun k=>k=g\/d.ownBlock=some k) w w':=by
 have hF:=J.bq
 refine hY w g bb rb s
  (fun v t pl W=>∃L,Sa cs s t pl L/\W.ownsRow w.heap.size 9 1 v L.length (L.map fun z=>.string (bs z))/\Below w.heap.size w W)
  (fun v u W=>∃L:List B8,L.length<=2040/\W.ownsRow w.heap.size 9 1 v L.length (L.map fun z=>.string (bs z))/\W.ownsRow w.heap.size 9 1 u L.length (L.map fun z=>.string (bs z))/\Below w.heap.size w W)
  (fun v W=>∃L:List B8,L.length<=2040/\W.ownsRow w.heap.size 9 1 v L.length (L.map fun z=>.string (bs z))/\Below w.heap.size w W)
  (fun w'=>∃y p,Aw w' g [c,y] 29/\E1 w' B y (hs++[p])/\A3 (fun k=>k=g\/d.ownBlock=some k) w w')
  (Ao ?_) (Ao ?_) (Ao ?_) (Ao ?_)
 ·intro W j;have hx:=J.below j;refine(kE W B bb K cs hx.al hx.row hF s b).mono ?_;rintro e w' ⟨Q,l,i,t,pl,L,rfl,r,a,q⟩;exact⟨Q,l,i,t,pl,rfl,⟨L,r,BS a j.size,j.trans (q.mono j.size)⟩,q⟩
 ·rintro v t pl W ⟨L,r,a,j⟩;have Y:=hR.below j;refine(kC W (P.below j M) (by have:=j.size;omega) B rb V cs Y.al Y.row hF s b).mono ?_;rintro e w' ⟨Q,l,i,q0,q1,L',rfl,R,o,q⟩;obtain⟨rfl,rfl,rfl⟩:=cI r R;exact⟨Q,l,i,rfl,L,cM hF r,Ah a q,BS o j.size,j.trans (q.mono j.size)⟩
 ·rintro v u W ⟨L,Z,h1,h2,j⟩;obtain⟨m,n,rfl⟩:=Au h1;obtain⟨U,G,rfl⟩:=Au h2;refine(SH W _ _ m U n G L h1 h2 (by omega)).mono ?_;rintro e w' ⟨rfl,q⟩;exact⟨rfl,L,Z,Ah h1 q,j.trans (q.mono j.size)⟩
 ·rintro v W ⟨L,Z,h1,j⟩;obtain⟨m,n,rfl⟩:=Au h1;exact Tu w W B g c d hs x hW C j f m L.length n _ h1 (by omega)
theorem CG.held{w w':World}{B j:Nat}{z y:Value}{ps:List PR}{hs:List Nat}(h:CG w B j z ps)(b:E1 w B z hs){u:Value}(hW:Aw w j [u,z] 29)(d:w.ownsRow B 44 2 u ps.length (ps.flatMap PR.ct))(g:Aw w' j [u,y] 29)(v:A3 (fun k=>k=j\/z.ownBlock=some k) w w'):
 CG w' B j y ps/\Below B w w'/\∀ob cs,Aw w ob cs 33->Aw w' ob cs 33:=by
 have ht:∀t,29≠t->51≠t->Df w (fun k=>k=j\/z.ownBlock=some k) t:=fun t h1 h2=>Lq (Gq hW h1) (Kk b.row h2)
 have q:Below B w w':=v.below h.le (by
  rintro k (rfl|r)
  ·exact h.up
  ·exact A9 b.row k r)
 exact⟨⟨h.ends.below q h.pos,h.pos,Ay h.le q.size,h.up,⟨u,g,BI d v (F2 d (ht _ (by decide) (by decide)))⟩,h.bn.other v (ht _ (by decide) (by decide)) (ht _ (by decide) (by decide)) (ht _ (by decide) (by decide)) (ht _ (by decide) (by decide)) (ht _ (by decide) (by decide)) (ht _ (by decide) (by decide)) (ht _ (by decide) (by decide)),h.same⟩,q,fun ob cs hb=>hb.only v (En (ht _ (by decide) (by decide)) hb)⟩
def mY(w:World)(B y:Nat)(ps:List PR)(hs:List Nat)(e:Ending)(w':World):Prop:=
 e=.returned (.bool true)/\(∃q z j,CG w' B y z q/\E1 w' B z j/\ps.length<=q.length/\q.length<=ps.length+1/\j.length<=hs.length+1)/\Below B w w'/\∀ob cs,Aw w ob cs 33->Aw w' ob cs 33
theorem UK(w:World)(B u:Nat)(c:Value)(ps:List PR)(hs:List Nat)(z:CG w B u c ps)(a:E1 w B c hs)(d:0<ps.length)(hn:ps.length<=5000000000000)(J:hs.length<=5000000000000)(kd m:Int)(s:ByteArray)(n:s.size<=maxLen)(lv:Value)(hk:kd<=6):
 Calls prog 10 #[.pointer (some ⟨u,0,none⟩),.agg #[.int .i64 kd,.int .i64 m,.string s,lv]] w fun e w'=>mY w B u ps hs e w':=by
 by_cases G:kd=6
 ·subst G;have t:=z.same;obtain⟨pv,hW,i⟩:=z.row;have Q:=z.le;have q0:=z.pos;obtain⟨ao,cap,rfl⟩:=Au i;obtain⟨-,-,b⟩:=EF m ps.length d (by omega);obtain⟨g,rfl,R,V,U⟩:=Rj i (Fx m ps.length) b;have Y:ps[Fx m ps.length]? =some ps[Fx m ps.length]:=Ar b;have l:=t _ (Aj b);have hx:=z.bn.prog _ _ Y;have K:=z.bn.ref _ _ Y;generalize q1:ps[Fx m ps.length]=x at*;rw[l]at K;refine(UL w u g ps.length cap x.bb x.rb c lv m s (fun w'=>∃W j p,Below w.heap.size w W/\Aw w' u [.slice (some ⟨g,0,none⟩) ps.length cap,j] 29/\E1 w' B j (hs++[p])/\A3 (fun k=>k=u\/c.ownBlock=some k) W w') hW d (by omega) R V U ?_).mono ?_
  ·intro W q;have y:=z.below q;refine(lD W B u (.slice (some ⟨g,0,none⟩) ps.length cap) c hs x.bb x.rb x.v x.r x.cs y.le y.ends (by have:=q.size;omega) (hW.below q) (a.still (DF.ab q)) J (hx.below q) (K.below q) s n).mono ?_;rintro e w' ⟨rfl,j,p,h1,h2,h3⟩;exact⟨rfl,W,j,p,q,h1,h2,h3⟩
  ·rintro e w' ⟨rfl,W,j,p,q,h1,h2,h3⟩;have y:=z.below q;obtain⟨r1,P,C⟩:=y.held (a.still (DF.ab q)) (hW.below q) (Ah i q) h1 h3;exact⟨rfl,⟨ps,j,_,r1,h2,Ab _,by omega,by simp⟩,(q.mono Q).trans P,fun ob cs hb=>C ob cs (hb.below q)⟩
 ·refine(QU w B u c ps z d hn kd m s n lv (by omega)).mono ?_;rintro e w' ⟨rfl,⟨Z,o,h1,h2⟩,f,hq⟩;exact⟨rfl,⟨Z,c,hs,o,a.still hq,h1,h2,by omega⟩,f,hq.op⟩
def nY(w:World)(W:World)(k j:Nat):Prop:=∃ps q hs,CG W w.heap.size w.heap.size q ps/\E1 W w.heap.size q hs/\ps.length=k/\0<k/\hs.length<=j/\Below w.heap.size w W
theorem V7(w:World)(K:Dl w)(Y:0<w.heap.size)(ao:Option Addr)(a:Addr)(n cap:Nat)(kd m:Nat->Int)(S:Nat->ByteArray)(la:Nat->Option Addr)(ll lc:Nat->Nat)(hn:n<=4000000000000)(s:0<n->ao=some a)
 (i:GX w a n kd m S la ll lc)(hS:∀k,k<n->(S k).size<=maxLen):
 Calls prog 5 #[.slice ao n cap] w fun e w'=>e=.returned (.bool true)/\Below w.heap.size w w':=by
 have Q:=eR w (nY w) ao a n cap kd m S la ll lc 6 6 6 (by omega) s (fun W z=>i.below z)
  (by
    rintro W W' k j ⟨ps,u,hs,v,b,y,t,r,z⟩ q
    exact⟨ps,u,hs,v.below q,b.still (DF.ab q),y,t,r,z.trans (q.mono z.size)⟩)
  (by
    rintro W k j ⟨ps,u,hs,v,b,y,t,r,z⟩
    exact⟨ps,u,hs,v,b,y,t,by omega,z⟩)
  (by
    rintro W k j ⟨ps,u,hs,v,b,y,t,r,z⟩;obtain⟨Z,hW,J⟩:=v.row;obtain⟨U,pc,rfl⟩:=Au J;rw[y]at hW
    exact⟨z,U,pc,u,hW⟩)
  (by
    rintro W k j ⟨ps,u,hs,v,b,y,t,r,z⟩ p;obtain⟨Z,hW,J⟩:=v.row
    exact fH W w.heap.size w.heap.size Z u hs hW b (by omega))
  (by
    refine(NI _ _ _ _ [] (PN w K Y) (by simp) OB (by unfold maxLen;decide)).mono ?_;rintro e w' ⟨rfl,⟨g,d,y⟩,q,_⟩;rw[Ai Oc]at y
    exact⟨rfl,g,_,[],d,⟨Ak _ _ _ _,by simp⟩,y,by omega,by simp,(Ac w _).trans q⟩)
  (by
    rintro W k j ⟨ps,u,hs,v,b,y,t,r,z⟩ p q0 V;refine(UK W _ _ u ps hs v b (by omega) (by omega) (by omega) (kd j) (m j) (S j) (hS j p) _ V).mono ?_;rintro e w' ⟨rfl,⟨g,l,o,d,x,h1,h2,h3⟩,q,f⟩
    exact⟨rfl,⟨g.length,⟨g,l,o,d,x,rfl,by omega,by omega,z.trans q⟩,by omega⟩,f⟩)
 go_enter func5,ntmps5;go_wp2_with (go_at_call 8;refine Q.mono ?_;rintro e w1 ⟨rfl,c⟩)
 go_ret
 exact⟨rfl,c⟩
end
section
open Go.ChangeShapes Go.WideShapes Go.ChangeAt Go.ChangeMaps Go.WideMaps Go.WideElems Go.RowKit
theorem Z1:laidOutB prog=true:=by kernel_rfl
theorem VY(os:Os)(args:Array Value):laidMetH prog Rows.askedRow.laid ((World.doorLaid prog 400 os).forCall (fun _ _=>0) ⟨#[],args,[]⟩).memory:=
 laidMetH_of_parts3 (fuel:=8) (laidMet_of_run' 8 (by kernel_rfl) (by kernel_rfl)) (by kernel_rfl) (by kernel_rfl)
theorem RS(os:Os)(k:os.Started)(H:Type)(enc:TypeId×Value->H):
 ReturnsInHanded {} Tryz.checked os 5 .any (fun w args=>(Rows.askedSpec.pre enc prog Tryz.f5 [] false w args/\laidMetH prog Rows.askedRow.laid w)/\sizedMet enc prog Tryz.f5 (OpenSpec.ofChange Rows.askedSpec) false w args)
  (Rows.askedSpec.post enc prog Tryz.f5 false true false false):=by
 refine returnsInHanded_of_change_and (C:=Tryz.checked) (X:=fun w _=>laidMetH prog Rows.askedRow.laid w) (fun _ _ _ R h=>h.of_heap R) ZH k (by kernel_rfl) func5
  (ChangeSpec.witness_shaped (enc:=enc) (C:=Tryz.checked) (os:=os) (X:=fun w _=>laidMetH prog Rows.askedRow.laid w) false (World.doorLaid prog 400 os) #[.slice none 0 0] 8 rfl (World.shaped_of_RefB (by kernel_rfl) (by kernel_rfl)) (by kernel_rfl) (by kernel_rfl) (by kernel_rfl) (VY os _)) ?_
 intro W base args ds K q0 z hW _ r V _;have y:(DataW.weightsEach prog (Tryz.f5.params.toList++Rows.askedSpec.plain.varTypes prog) (ds++K)).all (· <=reachBytes)=true:=r;have u:∀(j:Nat) t v,Tryz.f5.params[j]? =some t->args[j]? =some v->Value.okWide prog W .any base t v:=z;have g:=hW;obtain⟨p,q,d,U,rfl,_,_⟩:=hW;have l:DataW.TrodAll enc prog W 0 (fun _=>true) true Tryz.f5.params.toList args.toList ds p:=d;rw[Tryz.params5]at l u y;obtain⟨P,Y,rfl,rfl,i⟩:=trodAll_one l;obtain⟨rfl,rfl⟩:=trodVars_none U;have c:=i;obtain⟨fuel,B⟩:=i;have J:=RE V;clear d z r;simp only[BC]at g;have s:∀x∈p,x.block<W.heap.size:=fun x hx=>by simpa using g.lt x hx
 obtain⟨a0,len,b,rfl⟩:=okWide_slice underlying22 (u 0 22 P rfl rfl);have o:(Y.weights prog 22).all (· <=reachBytes)=true:=by simp only[List.cons_append,List.nil_append,DataW.weightsEach,List.all_append,Cp]at y;exact y.1
 obtain⟨ao,a,n,cap,O,Z,m,hn,f,hS⟩:=SG (v:=.slice a0 len b) (by simpa[Value.cells]using B) o;simp only[Bx]at Z;obtain⟨rfl,rfl,rfl⟩:=Z
 haveI:DecidableEq R3:=Classical.typeDecidableEq R3
 haveI:DecidableEq A4:=Classical.typeDecidableEq A4
 refine(V7 W J (gR (J 0 (by decide))) _ a _ _ _ _ _ _ _ _ hn m f hS).mono fun e W' ⟨G,Q⟩=>?_;subst G;exact⟨_,rfl,⟨_,_,_,[],_,[],g,trodAll_mk1 (shut_bool underlying4 _),trodAll_mk1 (Below.trod Z1 (by kernel_rfl) (BV (by kernel_rfl)) c Q s),rfl,Q.frame _,fun h=>by cases h⟩⟩
theorem Ue:Rows.AskedSaid:=
 OpenClaim.holds_of_wide 5 Tryz.f5 rfl rfl rfl rfl rfl rfl rfl ⟨rfl,rfl,rfl,rfl,rfl⟩ rfl rfl rfl rfl rfl (by kernel_rfl) func5 (by kernel_rfl)
  (BV (by kernel_rfl)) (by unfold Func.isWrapper;first|(rw[Ai (by decide+kernel)];kernel_rfl)|(rw[Af (by decide+kernel)];exact⟨rfl,rfl⟩))
  (fun os q H enc _=>RS os q H enc)
theorem askedCard_holds:Rows.AskedCardSaid:=
 Xb .later [.data] true Rows.askedCard.stood.harness false true
  Ue (by kernel_rfl) asked_row_tie rfl ⟨rfl,rfl⟩ (by kernel_rfl) rfl
  (fun f y k z=>by
    obtain rfl:f=5:=Be ((show prog.funcNamed Rows.askedRow.func=some 5 by kernel_rfl).symm.trans k)|>.symm;obtain rfl:y=Tryz.f5:=(Be (func5.symm.trans z)).symm
    exact⟨by kernel_rfl,fun j t ht=>by
     rw[Tryz.params5]at ht;have v:t∈[22]:=by simpa using Array.mem_of_getElem? ht
     have q:([22].all fun u=> !prog.wantsStandIn u)=true:=by kernel_rfl
     exact(show prog.wantsStandIn t=false by simpa using List.all_eq_true.1 q t v)⟩)
  (by kernel_rfl)
end
end Go.Proofs.YtpbfiffgcgnidaaGreatDoor
