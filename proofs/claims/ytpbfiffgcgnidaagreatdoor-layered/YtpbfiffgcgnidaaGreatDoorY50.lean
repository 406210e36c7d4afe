import Derived.Test.YtpbfiffgcgnidaaGreatDoorYal
import Derived.Test.YtpbfiffgcgnidaaGreatDoorY38
import Derived.Test.YtpbfiffgcgnidaaGreatDoorY41
namespace Go.Proofs.YtpbfiffgcgnidaaGreatDoor
set_option maxRecDepth 100000
set_option maxHeartbeats 4000000
set_option linter.unusedSimpArgs false
open Go.Proofs.Tryz
section
open Go.RowKit Go.WideMaps Go.Maps
theorem ND(s:ByteArray):s=bs s.data.toList:=by apply UE;simp[bs]
theorem ZC(w:World)(base bb:Nat)(v:Value)(cs:List RC)(y:Aw w bb [v] 59)(z:AY w base v (cs.map RC.d))(hF:E2 cs)(nm:B8)(k:nm.length<=maxLen):
 Calls prog 20 #[.pointer (some ⟨bb,0,none⟩),.string (bs nm)] w fun e w'=>e=.returned (.int .i64 (PC cs nm))/\Below w.heap.size w w':=by
 obtain⟨ao,cap,rfl⟩:=z.form;rw[AK]at y z;have v0:w.cell? ⟨bb,0,none⟩=some (.slice ao cs.length cap):=y.cell 0;have q0:=y.lt;have q:=Ao (nM w base ao cap cs z hF nm k);go_enter func20,ntmps20;go_wp2_with (go_at_call 45;refine(q.out).mono ?_;rintro e w1 ⟨rfl,j⟩)
 go_ret
 exact⟨rfl,j⟩
theorem QU(w:World)(B p:Nat)(n:Value)(ps:List PR)(y:CG w B p n ps)(u:0<ps.length)(hn:ps.length<=5000000000000)(kd m:Int)(s:ByteArray)(hs:s.size<=maxLen)(lv:Value)(hk:kd<=5):
 Calls prog 10 #[.pointer (some ⟨p,0,none⟩),.agg #[.int .i64 kd,.int .i64 m,.string s,lv]] w fun e w'=>O0 w B p n ps e w':=by
 by_cases K:kd=5
 ·subst K;have b:=y.same;have o:=y.le;obtain⟨pv,hW,l⟩:=y.row;obtain⟨ao,cap,rfl⟩:=Au l;obtain⟨-,-,k⟩:=EF m ps.length u (by omega);obtain⟨g,rfl,U,Z,Y⟩:=Rj l (Fx m ps.length) k;have Q:ps[Fx m ps.length]? =some ps[Fx m ps.length]:=Ar k;have f:=b _ (Aj k);have hx:=y.bn.prog _ _ Q;have J:=y.bn.ref _ _ Q;generalize q0:ps[Fx m ps.length]=x at*;rw[f]at J;have a:=hx.bq;refine(QV w p g ps.length cap x.bb x.rb n lv m s (PC x.cs s.data.toList) (fun w'=>Below w.heap.size w w') (fun w'=>Below w.heap.size w w') hW u (by omega) U Z Y ?_ ?_).mono ?_
  ·intro W ob xb j i V;have d:=hx.below j;rw[ND s]at i⊢;refine(ZC W B x.bb x.v x.cs d.al d.row a s.data.toList hs).mono ?_;rintro e w' ⟨rfl,q⟩;refine⟨?_,j.trans (q.mono j.size),i.below q,V.below q⟩;rw[<-ND s]
  ·intro w1 z;have t:=J.below z;rw[ND s];refine(Zu w1 B x.rb x.r x.cs t.al t.row a.bp (fun c hc=>(a.bq c hc).small.bp) s.data.toList).mono ?_;rintro e w' ⟨rfl,q⟩;refine⟨?_,z.trans (q.mono z.size)⟩;rw[<-ND s]
  ·rintro e w' ⟨rfl,j⟩;exact⟨rfl,⟨ps,y.below j,Ab _,by omega⟩,j.mono o,DF.ab j⟩
 ·exact Xf w B p n ps y u hn kd m s hs lv (by omega)
theorem oV(w:World)(g:Dl w)(u:0<w.heap.size)(ao:Option Addr)(a:Addr)(n cap:Nat)(kd m:Nat->Int)(S:Nat->ByteArray)(la:Nat->Option Addr)(ll lc:Nat->Nat)(hn:n<=4000000000000)(z:0<n->ao=some a)
 (v:GX w a n kd m S la ll lc)(hS:∀k,k<n->(S k).size<=maxLen):
 Calls prog 4 #[.slice ao n cap] w fun e w'=>e=.returned (.bool true)/\Below w.heap.size w w':=by
 go_enter func4,ntmps4;go_wp2_with (go_at_call 8;refine(nL w g u ao a n cap kd m S la ll lc 5 5 5 hn z v (fun W ps j b y r d t=>QU W _ _ _ ps b y r (kd j) (m j) (S j) (hS j d) _ t)).mono ?_;rintro e w1 ⟨rfl,q⟩)
 go_ret
 exact⟨rfl,q⟩
end
end Go.Proofs.YtpbfiffgcgnidaaGreatDoor
