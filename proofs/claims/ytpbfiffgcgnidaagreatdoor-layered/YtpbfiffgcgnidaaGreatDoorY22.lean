import Derived.Test.YtpbfiffgcgnidaaGreatDoorYal
import Derived.ChangeKeysEq
import Derived.Lib.SliceRun
import Derived.Test.YtpbfiffgcgnidaaGreatDoorY17
import Derived.Test.YtpbfiffgcgnidaaGreatDoorY21
namespace Go.Proofs.YtpbfiffgcgnidaaGreatDoor
set_option maxRecDepth 100000
set_option maxHeartbeats 4000000
set_option linter.unusedSimpArgs false
open Go.Proofs.Tryz
section
attribute [local go_sem] AE As
open Go.RowKit Go.WideMaps Go.Maps
theorem ON:prog.cellsOf 9=1:=by kernel_rfl
theorem lE(x0 j z y k v:ByteArray)(W:World):(Op.equalIn 9999 78 (.agg #[.string x0,.string j,.string z]) (.agg #[.string y,.string k,.string v])).run prog W=.ok ((x0.toList==y.toList)&&((j.toList==k.toList)&&(z.toList==v.toList))) W:=by obtain⟨i1,q,q0,q1,q2⟩:=Bc Hk;rw[show(9999:Nat)=9998+1 from rfl,run_equalIn_array W 9998 _ _ underlying78 q,ON];rw[show List.range 3=[0,1,2] by decide];simp[Op.eqItems,go_sem,underlying9];by_cases u:x0.toList=y.toList<;>by_cases h1:j.toList=k.toList<;>by_cases h2:z.toList=v.toList<;>simp[u,h1,h2]
def iA(x0 q j z y k:ByteArray):Bool:=(x0.toList==z.toList)&&((q.toList==y.toList)&&(j.toList==k.toList))
theorem Oh(w:World)(nm:ByteArray)(ts:List B8)(bo:Option Addr)(n bcap:Nat)(h3:ts.length<=3)(hn:n<=4)(B:Nat)(k a0 t p:ByteArray)(ac:Int)(J:Aw w B [.string k,.int .i64 ac,.string a0,.string t,.string p] 80)(same:Bool)
 (Z:¬nm.toList=k.toList->same=false)(Y:¬((ts.length:Nat):Int)=ac->same=false)(f:nm.toList=k.toList->((ts.length:Nat):Int)=ac->same=iA (bs (ts.getD 0 [])) (bs (ts.getD 1 [])) (bs (ts.getD 2 [])) a0 t p):
 Calls prog 71 #[.agg #[.string nm,.int .i64 (ts.length:Nat),.string (bs (ts.getD 0 [])),.string (bs (ts.getD 1 [])),.string (bs (ts.getD 2 [])),.slice bo n bcap],.pointer (some ⟨B,0,none⟩)] w fun e w'=>e=.returned (.bool (CR n ts&&same))/\Below w.heap.size w w':=by
 have v:=fun W:World=>Tx W nm ts bo n bcap h3 hn;obtain⟨u,i⟩:∃u,Hid (u=bs (ts.getD 0 [])):=⟨_,rfl⟩;obtain⟨g,l⟩:∃g,Hid (g=bs (ts.getD 1 [])):=⟨_,rfl⟩;obtain⟨b,Q⟩:∃b,Hid (b=bs (ts.getD 2 [])):=⟨_,rfl⟩;rw[<-i.out,<-l.out,<-Q.out];rw[<-i.out,<-l.out,<-Q.out]at v f;have x:=Ao v;have S1:=Ao Z;have S2:=Ao Y;have o:=Ao f;clear v Z Y f;have y:=lE u g b a0 t p;obtain⟨r,a⟩:∃r,Hid (r=iA u g b a0 t p):=⟨_,rfl⟩;have q0:∀W:World,(Op.equalIn 9999 78 (.agg #[.string u,.string g,.string b]) (.agg #[.string a0,.string t,.string p])).run prog W=.ok r W:=by intro W;rw[a.out];exact y W
 clear y;rw[<-a.out]at o;cases hf:CR n ts
 ·rw[hf]at x;go_enter func71,ntmps71;go_wp2_with fail;refine(x.out _).mono ?_;rintro e w1 ⟨rfl,q⟩;go_wp2_with fail
  go_ret
  exact⟨rfl,(Ac _ _).trans (q.mono (by simp))⟩
 ·rw[hf]at x;go_enter func71,ntmps71;go_wp2_with fail;refine(x.out _).mono ?_;rintro e w1 ⟨rfl,q⟩;obtain⟨c0,c1,c2,c3,c4⟩:=((J.alloc _).below q).c5;obtain⟨d0,d1,d2,d3,d4,d5⟩:=((Aw.new w [.string nm,.int .i64 (ts.length:Nat),.string u,.string g,.string b,.slice bo n bcap] 86).below q).c6;have m:=(Ac w (.cells #[.string nm,.int .i64 (ts.length:Nat),.string u,.string g,.string b,.slice bo n bcap] 86)).trans (q.mono (by simp));have j:=Ao m;clear q m J;by_cases z:nm.toList=k.toList
  ·by_cases g2:((ts.length:Nat):Int)=ac
   ·have d:=Ao (o.out z g2);have c:(nm.toList==k.toList)=true:=by rw[z];simp
    have s:(((ts.length:Nat):Int)==ac)=true:=by rw[g2];simp
    clear z g2;cases r
    ·go_wp2_with fail
     go_ret
     rw[d.out];exact⟨rfl,j.out⟩
    ·go_wp2_with fail
     go_ret
     rw[d.out];exact⟨rfl,j.out⟩
   ·have d:=Ao (S2.out g2);have c:(nm.toList==k.toList)=true:=by rw[z];simp
    have s:(((ts.length:Nat):Int)==ac)=false:=by rw[Az];exact g2
    clear z g2;go_wp2_with fail
    go_ret
    rw[d.out];exact⟨rfl,j.out⟩
  ·have d:=Ao (S1.out z);have c:(nm.toList==k.toList)=false:=by rw[Az];exact z
   clear z;go_wp2_with fail
   go_ret
   rw[d.out];exact⟨rfl,j.out⟩
open Go.RowKit Go.WideMaps Go.Maps
attribute [local go_sem] AE As
def JV(name q:B8)(ts ats:List B8):Bool:=decide (name=q)&&decide (ts=ats)
theorem LN(l:B8):(bs l).toList=l:=by rw[Fm,WM]
theorem Zd(ts ats:List B8)(h:ts.length<=3)(q:ts.length=ats.length):decide (ts=ats)=iA (bs (ts.getD 0 [])) (bs (ts.getD 1 [])) (bs (ts.getD 2 [])) (bs (ats.getD 0 [])) (bs (ats.getD 1 [])) (bs (ats.getD 2 [])):=by
 unfold iA;simp only[LN]
 match ts,ats,q with
 |[],[],_=>simp
 |[a],[b],_=>by_cases h:a=b<;>simp[h]
 |[a,c],[b,d],_=>by_cases h:a=b<;>by_cases h2:c=d<;>simp[h,h2]
 |[a,c,e],[b,d,f],_=>by_cases h:a=b<;>by_cases h2:c=d<;>by_cases h3:e=f<;>simp[h,h2,h3]
 |_::_::_::_::_,_,_=>simp at h
theorem MY(w:World)(name:B8)(ts:List B8)(bo:Option Addr)(n bcap:Nat)(h3:ts.length<=3)(hn:n<=4)(B:Nat)(q:B8)(ats:List B8)(j:Aw w B (Bp q ats) 80):
 Calls prog 71 #[.agg #[.string (bs name),.int .i64 (ts.length:Nat),.string (bs (ts.getD 0 [])),.string (bs (ts.getD 1 [])),.string (bs (ts.getD 2 [])),.slice bo n bcap],.pointer (some ⟨B,0,none⟩)] w fun e w'=>e=.returned (.bool (CR n ts&&JV name q ts ats))/\Below w.heap.size w w':=by
 refine Oh w (bs name) ts bo n bcap h3 hn B (bs q) (bs (ats.getD 0 [])) (bs (ats.getD 1 [])) (bs (ats.getD 2 [])) (ats.length:Nat) j (JV name q ts ats) ?_ ?_ ?_
 ·intro h;rw[LN,LN]at h;simp[JV,h]
 ·intro h;have:¬ts=ats:=fun e=>h (by rw[e]);simp[JV,this]
 ·intro h1 h2;rw[LN,LN]at h1;rw[<-Zd ts ats h3 (by omega)];simp[JV,h1]
def EU(q:B8)(ats:List B8)(d:Bd):Bool:=CR d.lits.length d.ts&&JV d.name q d.ts ats
def JK(q:B8)(ats:List B8):Nat->List Bd->Int
 |_,[]=> -1
 |k,d::r=>if EU q ats d=true then(k:Int) else JK q ats (k+1) r
def UA(q:B8)(ats:List B8)(ds:List Bd):Int:=JK q ats 0 ds
theorem Ot(q:B8)(ats:List B8)(ds:List Bd)(k:Nat)(h:k<ds.length):JK q ats k (ds.drop k)=if EU q ats ds[k]=true then(k:Int) else JK q ats (k+1) (ds.drop (k+1)):=by rw[Aa h,JK]
def WJ(B:Nat):Value:=.func (.func 71) #[] #[.pointer (some ⟨B,0,none⟩)]
theorem Vp(w:World)(q:B8)(ats:List B8):
 Calls prog 39 #[.agg (Bp q ats).toArray] w fun e w'=>e=.returned (WJ w.heap.size)/\w'=w.alloc (.cells (Bp q ats).toArray 80):=by
 unfold Bp WJ;generalize bs q=x at*;generalize bs (ats.getD 0 [])=y0 at*;generalize bs (ats.getD 1 [])=y1 at*;generalize bs (ats.getD 2 [])=y2 at*;go_enter func39,ntmps39;go_wp2
 go_ret
 exact⟨rfl,rfl⟩
theorem Qp(w:World)(base:Nat)(ao:Option Addr)(cap:Nat)(ds:List Bd)(Z:AY w base (.slice ao ds.length cap) ds)(hW:∀d∈ds,d.WF)(hn:ds.length<=40)(B:Nat)(j:B8)(ats:List B8)(s:Aw w B (Bp j ats) 80):
 Calls prog 70 #[.slice ao ds.length cap,.func (.func 71) #[] #[.pointer (some ⟨B,0,none⟩)]] w fun e w'=>e=.returned (.int .i64 (UA j ats ds))/\Below w.heap.size w w':=by
 go_enter func70,ntmps70;go_wp2
 go_loopw [8] (fun m wr=>∃(i:Nat),i<=ds.length/\m=.int .i64 i/\Hid (JK j ats i (ds.drop i)=UA j ats ds)/\Below w.heap.size w wr) (fun m _=>ds.length-(intOf m).toNat)
 case atStart=>exact⟨0,by omega,rfl,rfl,Ag _ _⟩
 case round=>
  obtain⟨i,hi,rfl,r,q⟩:=hrel;by_cases z:i<ds.length
  ·obtain⟨g,bo,bcap,c,k,f,a,o,l,Q,J,q0⟩:=FB Z i z;subst c;have b:=hW ds[i] (Aj z);have HD:=Ao (Ot j ats ds i z);generalize ds[i]=d at*;have h3:=(b.words (d.name,d.ts) (by simp[Bd.atoms])).2.1;rw[<-q.cell (p:=⟨g,i*6,none⟩) k]at f;rw[<-q.cell (p:=⟨g,i*6+1,none⟩) k]at a;rw[<-q.cell (p:=⟨g,i*6+2,none⟩) k]at o;rw[<-q.cell (p:=⟨g,i*6+3,none⟩) k]at l;rw[<-q.cell (p:=⟨g,i*6+4,none⟩) k]at Q;rw[<-q.cell (p:=⟨g,i*6+5,none⟩) k]at J;have x:=Ao (fun(W:World) (hb:Aw W B (Bp j ats) 80)=>MY W d.name d.ts bo d.lits.length bcap h3 b.lits B j ats hb);have n:=Ao s;clear s;cases hm:EU j ats d
   ·go_wp2_with (go_at_call 71;refine(x.out _ (by exact(n.out).below q)).mono ?_;rintro e w1 ⟨v,y⟩;rw[show(CR d.lits.length d.ts&&JV d.name j d.ts ats)=false from hm]at v;subst v);exact⟨⟨i+1,z,by go_num,by show _=_;rw[<-r.out,HD.out,hm];rfl,q.trans (y.mono q.size)⟩,by simp[intOf];omega⟩
   ·have t:=Ao (show UA j ats ds=(i:Int) by rw[<-r.out,HD.out,hm];rfl);go_wp2_with (go_at_call 71;refine(x.out _ (by exact(n.out).below q)).mono ?_;rintro e w1 ⟨v,y⟩;rw[show(CR d.lits.length d.ts&&JV d.name j d.ts ats)=true from hm]at v;subst v)
    go_ret
    rw[t.out];exact⟨rfl,q.trans (y.mono q.size)⟩
  ·have u:i=ds.length:=by omega
   have t:=Ao (show UA j ats ds= -1 by rw[<-r.out,u,AR];rfl);clear u;go_wp2
   go_ret
   rw[t.out];exact⟨rfl,q⟩
theorem RL(w:World)(base:Nat)(ao:Option Addr)(cap:Nat)(ds:List Bd)(v:AY w base (.slice ao ds.length cap) ds)(hW:∀d∈ds,d.WF)(hn:ds.length<=40)(B:Nat)(q:B8)(ats:List B8)(y:Aw w B (Bp q ats) 80):
 Calls prog 38 #[.slice ao ds.length cap,.func (.func 71) #[] #[.pointer (some ⟨B,0,none⟩)]] w fun e w'=>e=.returned (.bool (decide (0<=UA q ats ds)))/\Below w.heap.size w w':=by
 have z:=Ao (Qp w base ao cap ds v hW hn B q ats y);generalize UA q ats ds=k at*;go_enter func38,ntmps38;go_wp2_with fail;refine(z.out).mono ?_;rintro e w1 ⟨rfl,j⟩;go_wp2_with fail
 go_ret
 exact⟨rfl,j⟩
def Cc(s:ByteArray):IP:=Bf s s.data.toList
theorem Nf(w:World)(s:ByteArray)(hs:s.size<=2000)(hok:(Cc s).ok=true)(j:(AD (Cc s).rest).isEmpty=true):
 Calls prog 104 #[.string s] w fun e w'=>e=.returned (.tuple #[.agg (Bp (Cc s).name (Cc s).ts).toArray,.agg (CA 0 (Cc s).np (Cc s).ps).toArray,.int .i64 0,.bool true])/\Below w.heap.size w w':=by
 have N:s.size<=maxLen:=by unfold maxLen;omega
 have r:=Aw.new ((w.alloc (.cells zA.toArray 80)).alloc (.cells zS.toArray 141)) [.string s,.int .i64 0] 114;have B:((w.alloc (.cells zA.toArray 80)).alloc (.cells zS.toArray 141)).heap.size=w.heap.size+1+1:=by simp
 rw[B]at r;have U:Rd (((w.alloc (.cells zA.toArray 80)).alloc (.cells zS.toArray 141)).alloc (.cells #[.string s,.int .i64 0] 114)) (w.heap.size+1+1) s s.data.toList:=⟨0,by omega,by simp,r⟩;have Z:=((Aw.new w zA 80).alloc (.cells zS.toArray 141)).alloc (.cells #[.string s,.int .i64 0] 114);have K:=(C9 w (.cells zA.toArray 80) zS 141).alloc (.cells #[.string s,.int .i64 0] 114);have Q:Below w.heap.size w (((w.alloc (.cells zA.toArray 80)).alloc (.cells zS.toArray 141)).alloc (.cells #[.string s,.int .i64 0] 114)):=(((Ag _ w).alloc (Ab _) _).alloc (by simp) _).alloc (by simp;omega) _;clear r B;have m:=Ao (JA _ (w.heap.size+1+1) s s.data.toList U (by omega));obtain⟨A,R⟩:∃A,Hid (A=Cc s):=⟨_,rfl⟩;rw[<-R.out]at hok j⊢;have c:Hid (Bf s s.data.toList=A):=R.out.symm;have i:=Ao K;have a:=Ao Z;have n:=Ao Q;clear U K Z Q;go_enter func104,ntmps104;go_wp2_with fail;refine(m.out).mono ?_;rintro e w1 ⟨M,y,z⟩;rw[c.out]at M y;rw[IP.cj,hok]at M;subst M;have q0:w.heap.size+1+1<w1.heap.size:=y.lt;have Y:=a.out.kept z (by omega);have V:=i.out.kept z (by omega);have k:Below w.heap.size w w1:=n.out.trans (z.below (by omega) (by simp;omega));clear m n a i;have J:=EI w1 [.string A.nm,.int .i64 A.cn,.string (A.t 0),.string (A.t 1),.string (A.t 2)] 80 [.int .i64 0,.int .i64 A.cw,.int .i64 (A.p 0),.int .i64 (A.p 1),.int .i64 (A.p 2)] 141;have G:=C9 w1 (.cells #[.string A.nm,.int .i64 A.cn,.string (A.t 0),.string (A.t 1),.string (A.t 2)] 80) [.int .i64 0,.int .i64 A.cw,.int .i64 (A.p 0),.int .i64 (A.p 1),.int .i64 (A.p 2)] 141;have u:=Ao (KG _ (w.heap.size+1+1) s A.rest ((y.alloc (.cells #[.string A.nm,.int .i64 A.cn,.string (A.t 0),.string (A.t 1),.string (A.t 2)] 80)).alloc (.cells #[.int .i64 0,.int .i64 A.cw,.int .i64 (A.p 0),.int .i64 (A.p 1),.int .i64 (A.p 2)] 141)) N);rw[j]at u;have f:=Ao J;have g:=Ao G;have o:=Ao ((Y.alloc (.cells #[.string A.nm,.int .i64 A.cn,.string (A.t 0),.string (A.t 1),.string (A.t 2)] 80)).alloc (.cells #[.int .i64 0,.int .i64 A.cw,.int .i64 (A.p 0),.int .i64 (A.p 1),.int .i64 (A.p 2)] 141));have l:=Ao ((V.alloc (.cells #[.string A.nm,.int .i64 A.cn,.string (A.t 0),.string (A.t 1),.string (A.t 2)] 80)).alloc (.cells #[.int .i64 0,.int .i64 A.cw,.int .i64 (A.p 0),.int .i64 (A.p 1),.int .i64 (A.p 2)] 141));have x:=Ao ((k.alloc (by omega) (.cells #[.string A.nm,.int .i64 A.cn,.string (A.t 0),.string (A.t 1),.string (A.t 2)] 80)).alloc (by simp;omega) (.cells #[.int .i64 0,.int .i64 A.cw,.int .i64 (A.p 0),.int .i64 (A.p 1),.int .i64 (A.p 2)] 141));clear J G Y V k j hok z y R c;go_wp2_with fail;refine(u.out).mono ?_;rintro e w2 ⟨rfl,C,q⟩;have q1:w1.heap.size+1<w2.heap.size:=(g.out.kept q (by omega)).lt;obtain⟨c0,c1,c2,c3,c4⟩:=(f.out.kept q (by omega)).c5;obtain⟨d0,d1,d2,d3,d4⟩:=(g.out.kept q (by omega)).c5;have b:=o.out.kept q (by omega);have d:=l.out.kept q (by omega);have fP:=b.frozen;have fQ:=d.frozen;have P:=Ao (x.out.trans (q.below (by omega) (by simp;omega)));clear u f g o l x q C;obtain⟨a0,X,S,E,O⟩:=b.c5;obtain⟨I,L,H,W,h⟩:=d.c5;clear b d;have q2:w.heap.size<w1.heap.size:=by omega
 have q3:w.heap.size+1<w1.heap.size:=by omega
 have q4:w.heap.size<w1.heap.size+1:=by omega
 have q5:w.heap.size+1<w1.heap.size+1:=by omega
 go_wp2_with fail;go_region;go_wp2;refine Aq (v:=.tuple #[.agg #[.string A.nm,.int .i64 A.cn,.string (A.t 0),.string (A.t 1),.string (A.t 2)],.agg #[.int .i64 0,.int .i64 A.cw,.int .i64 (A.p 0),.int .i64 (A.p 1),.int .i64 (A.p 2)],.int .i64 0,.bool true]) (by simp[results,results104,go_sem,a0,X,S,E,O,I,L,H,W,h]) rfl ⟨rfl,?_⟩;refine DB ?_
 repeat (refine AQ ?_ (by simp only[];omega) _)
 exact P.out
theorem aV(w:World)(base sb:Nat)(mv lv cv:Value)(xs:List B8)(ns:List Nat)(k:B8)(c:Nat)(t0 t1 t2:ByteArray)(v:Aw w sb [mv,lv,cv] 180)(hC:ES w base mv lv cv xs ns)(u:k.length<=maxLen)(hn:xs.length<=100000)(q:base<=w.heap.size)(z:base<=sb)(b:Bool)
 (h:BZ xs k=true/\(Y4 ns (CI xs k)==(c:Int))=b\/BZ xs k=false/\true=b):
 Calls prog 92 #[.pointer (some ⟨sb,0,none⟩),.agg #[.string (bs k),.int .i64 c,.string t0,.string t1,.string t2]] w fun e w'=>e=.returned (.bool b)/\Below base w w':=by
 rcases h with⟨h,rfl⟩|⟨h,rfl⟩
 ·refine(LJ w base sb mv lv cv xs ns k c t0 t1 t2 v hC u h).mono ?_;rintro e w' ⟨y,j⟩;exact⟨y,j.mono q⟩
 ·refine(OA w base sb mv lv cv xs ns k c t0 t1 t2 v hC u h hn q).mono ?_;rintro e w' ⟨y,-,-,-,-,-,g⟩;exact⟨y,g.toBelow z⟩
theorem Jl(w:World)(base bb:Nat)(ds:List Bd)(hI:Dm w base bb ds)(hW:∀d∈ds,d.WF)(hn:ds.length<=40)(s:ByteArray)(hs:s.size<=2000)(hok:(Cc s).ok=true)(y:(AD (Cc s).rest).isEmpty=true)
 (b:Bool)(O:BZ (Cv ds).1 (Cc s).name=true/\(Y4 (Cv ds).2 (CI (Cv ds).1 (Cc s).name)==((Cc s).ts.length:Int))=b\/BZ (Cv ds).1 (Cc s).name=false/\true=b)(I:(Cc s).name.length<=12):
 Calls prog 68 #[.pointer (some ⟨bb,0,none⟩),.string s] w fun e w'=>e=.returned (cond b (.tuple #[.agg (Bp (Cc s).name (Cc s).ts).toArray,.agg (CA 0 (Cc s).np (Cc s).ps).toArray,.int .i64 0,.int .i64 0]) (.tuple #[.agg zA.toArray,.agg zS.toArray,.int .i64 3,.int .i64 ((Cc s).np:Nat)]))/\Below w.heap.size w w':=by
 obtain⟨v,h1,h2⟩:=hI;obtain⟨ao,cap,rfl⟩:=h2.form;have J:=Ao (fun W=>Nf W s hs hok y);have hq:¬((2000:Int)<(s.size:Int)):=by omega
 have E:w.cell? ⟨bb,0,none⟩=some (.slice ao ds.length cap):=h1.cell 0;have G:=EI w zA 80 zS 141;have P:=C9 w (.cells zA.toArray 80) zS 141;have Y:Below w.heap.size w ((w.alloc (.cells zA.toArray 80)).alloc (.cells zS.toArray 141)):=((Ag _ w).alloc (Ab _) _).alloc (by simp) _;have o:=Ao G;have l:=Ao P;have a:=Ao Y;clear G P Y;obtain⟨A,N⟩:∃A,Hid (A=Cc s):=⟨_,rfl⟩;rw[<-N.out]at hok y O I⊢;have HV:Hid (∀W:World,Calls prog 104 #[.string s] W fun e w'=>e=.returned (.tuple #[.agg #[.string A.nm,.int .i64 A.cn,.string (A.t 0),.string (A.t 1),.string (A.t 2)],.agg #[.int .i64 0,.int .i64 A.cw,.int .i64 (A.p 0),.int .i64 (A.p 1),.int .i64 (A.p 2)],.int .i64 0,.bool true])/\Below W.heap.size W w'):=by intro W;rw[N.out];exact J.out W
 have HK:=Ao O;have L:=h1.lt;clear J hok y O N;go_enter func68,ntmps68;go_wp2_with fail;refine(HV.out _).mono ?_;rintro e w1 ⟨rfl,k⟩;have B:=o.out.below k;have n:=l.out.below k;have j:Below w.heap.size w w1:=a.out.trans (k.mono (by simp;omega));have c1:w1.cell? ⟨bb,0,none⟩=some (.slice ao ds.length cap):=by rw[j.cell (p:=⟨bb,0,none⟩) L];exact E
 clear E o l a k HV;have r:=EI w1 [.string A.nm,.int .i64 A.cn,.string (A.t 0),.string (A.t 1),.string (A.t 2)] 80 [.int .i64 0,.int .i64 A.cw,.int .i64 (A.p 0),.int .i64 (A.p 1),.int .i64 (A.p 2)] 141;have M:=C9 w1 (.cells #[.string A.nm,.int .i64 A.cn,.string (A.t 0),.string (A.t 1),.string (A.t 2)] 80) [.int .i64 0,.int .i64 A.cw,.int .i64 (A.p 0),.int .i64 (A.p 1),.int .i64 (A.p 2)] 141;have z:Below w1.heap.size w1 ((w1.alloc (.cells #[.string A.nm,.int .i64 A.cn,.string (A.t 0),.string (A.t 1),.string (A.t 2)] 80)).alloc (.cells #[.int .i64 0,.int .i64 A.cw,.int .i64 (A.p 0),.int .i64 (A.p 1),.int .i64 (A.p 2)] 141)):=((Ag _ w1).alloc (Ab _) _).alloc (by simp) _;have H:=j.size;have q9:=n.lt;have c:=((h2.below (j.mono (Ab _))).below z);have R:=B.below z;have C:=n.below z;have S:=Ao (OF _ base ao cap ds c hW hn);have g:=Ao r;have Z:=Ao M;have i:=Ao R;have Q:=Ao C;have h:=Ao (j.trans (z.mono H));obtain⟨q0,q1,q2,q3,q4⟩:=r.c5;have q6:bb<w1.heap.size:=by omega
 have q7:bb<w1.heap.size+1:=by omega
 go_wp2_with fail;clear B n R C j z h1 h2
 go_region_with (first|(go_at_call 105;refine(OF _ base ao cap ds (by exact c) hW hn).mono ?_;rintro e w2 ⟨mv,lv,cv,rfl,U,V,q5,u⟩;obtain⟨r0,r1,r2,r3,r4⟩:=(g.out.drew.below u).c5)|(go_at_call 92;refine(aV _ (w1.heap.size+1+1) (w1.heap.size+1+1) mv lv cv (Cv ds).1 (Cv ds).2 A.name A.ts.length _ _ _ (by simpa using U) (by simpa using V) (by unfold maxLen;omega) (by omega) (by have h9:=u.size;simp at h9;omega) (Ab _) b HK.out).mono ?_;rintro e w3 ⟨rfl,K⟩))
 all_goals
  have q:=u.trans (K.mono (Nat.le_of_eq (by simp)));have X:=Ao (h.out.drew.trans (q.mono (by simp;omega)));obtain⟨E,c1,c2,c3,c4⟩:=(g.out.drew.below q).c5;have f:=Z.out.drew.below q;obtain⟨d0,d1,d2,d3,d4⟩:=f.c5;have q8:w1.heap.size+1<w3.heap.size:=f.lt;have m:=i.out.drew.below q;have x:=Q.out.drew.below q;have fP:=m.frozen;have fQ:=x.frozen;obtain⟨a0,a1,a2,a3,a4⟩:=m.c5;obtain⟨s0,s1,s2,s3,s4⟩:=x.c5;clear m x f q g Z i Q h S r0 r1 r2 r3 r4 u K U V c q0 q1 q2 q3 q4 r M HK;have j0:w.heap.size<w1.heap.size:=by omega
  have j1:w.heap.size+1<w1.heap.size:=by omega
  have j2:w.heap.size<w1.heap.size+1:=by omega
  have j3:w.heap.size+1<w1.heap.size+1:=by omega
  cases b
  all_goals
   go_wp2_with fail;go_region
   all_goals
    go_wp2
    first
     |refine Aq (v:=.tuple #[.agg #[.string A.nm,.int .i64 A.cn,.string (A.t 0),.string (A.t 1),.string (A.t 2)],.agg #[.int .i64 0,.int .i64 A.cw,.int .i64 (A.p 0),.int .i64 (A.p 1),.int .i64 (A.p 2)],.int .i64 0,.int .i64 0]) (by simp[results,results68,go_sem,a0,a1,a2,a3,a4,s0,s1,s2,s3,s4]) rfl ⟨rfl,?_⟩
     |refine Aq (v:=.tuple #[.agg #[.string ⟨#[]⟩,.int .i64 0,.string ⟨#[]⟩,.string ⟨#[]⟩,.string ⟨#[]⟩],.agg #[.int .i64 0,.int .i64 0,.int .i64 0,.int .i64 0,.int .i64 0],.int .i64 3,.int .i64 A.cw]) (by simp[results,results68,go_sem,a0,a1,a2,a3,a4,s0,s1,s2,s3,s4]) rfl ⟨rfl,?_⟩
    refine DB ?_
    repeat (refine AQ ?_ (by simp only[];omega) _)
    exact X.out
theorem SW(w:World)(base bb:Nat)(ds:List Bd)(k:Dm w base bb ds)(hW:∀d∈ds,d.WF)(hn:ds.length<=40)(s:ByteArray)(hs:s.size<=2000)(hok:(Cc s).ok=true)(j:(AD (Cc s).rest).isEmpty=true)
 (q:BZ (Cv ds).1 (Cc s).name=true)(z:Y4 (Cv ds).2 (CI (Cv ds).1 (Cc s).name)=((Cc s).ts.length:Nat))(y:(Cc s).name.length<=12):
 Calls prog 68 #[.pointer (some ⟨bb,0,none⟩),.string s] w fun e w'=>e=.returned (.tuple #[.agg (Bp (Cc s).name (Cc s).ts).toArray,.agg (CA 0 (Cc s).np (Cc s).ps).toArray,.int .i64 0,.int .i64 0])/\Below w.heap.size w w':=
 Jl w base bb ds k hW hn s hs hok j true (.inl ⟨q,by simp[z]⟩) y
end
section
attribute [local go_sem] AE As
attribute [local go_sem] AE As
open Go.RowKit Go.WideMaps Go.Maps
open Go.RowKit Go.WideMaps Go.Maps
def dE(base bb:Nat)(ds:List Bd)(s:ByteArray)(q:B8)(ats:List B8):Prop:=
 ∀W:World,Dm W base bb ds->Calls prog 37 #[.pointer (some ⟨bb,0,none⟩),.string s] W fun e w'=>e=.returned (.tuple #[.agg (Bp q ats).toArray,.int .i64 0,.int .i64 0])/\Below W.heap.size W w'
structure QJ(base bb:Nat)(ds:List Bd)(s:ByteArray)(found:Bool)(x y0 y1 y2:ByteArray)(n:Int):Prop where
 reads:∀W:World,Dm W base bb ds->Calls prog 37 #[.pointer (some ⟨bb,0,none⟩),.string s] W fun e w'=>e=.returned (.tuple #[.agg #[.string x,.int .i64 n,.string y0,.string y1,.string y2],.int .i64 0,.int .i64 0])/\Below W.heap.size W w'
 de:∀W:World,Calls prog 39 #[.agg #[.string x,.int .i64 n,.string y0,.string y1,.string y2]] W fun e w'=>e=.returned (.func (.func 71) #[] #[.pointer (some ⟨W.heap.size,0,none⟩)])/\Aw w' W.heap.size [.string x,.int .i64 n,.string y0,.string y1,.string y2] 80/\Below W.heap.size W w'
 has:∀(W:World) (ao:Option Addr) (cap B:Nat),AY W base (.slice ao ds.length cap) ds->Aw W B [.string x,.int .i64 n,.string y0,.string y1,.string y2] 80->Calls prog 38 #[.slice ao ds.length cap,.func (.func 71) #[] #[.pointer (some ⟨B,0,none⟩)]] W fun e w'=>e=.returned (.bool found)/\Below W.heap.size W w'
theorem jO(base bb:Nat)(ds:List Bd)(hW:∀d∈ds,d.WF)(hn:ds.length<=40)(s:ByteArray)(q:B8)(ats:List B8)(hR:dE base bb ds s q ats):
 QJ base bb ds s (decide (0<=UA q ats ds)) (bs q) (bs (ats.getD 0 [])) (bs (ats.getD 1 [])) (bs (ats.getD 2 [])) (ats.length:Nat):=by
 refine⟨hR,?_,fun W ao cap B hC j=>RL W base ao cap ds hC hW hn B q ats j⟩;intro W;refine(Vp W q ats).mono ?_;rintro e w' ⟨rfl,rfl⟩;exact⟨rfl,Aw.new W (Bp q ats) 80,Ac _ _⟩
theorem RQ(w:World)(base bb:Nat)(ds:List Bd)(f:Dm w base bb ds)(s:ByteArray)(x y k g:ByteArray)(n:Int)(r:QJ base bb ds s true x y k g n):
 Calls prog 16 #[.pointer (some ⟨bb,0,none⟩),.string s] w fun e w'=>e=.returned (.tuple #[.int .i64 7,.int .i64 0])/\Below w.heap.size w w':=by
 have a:=Ao (r.reads w f);have J:=Ao r.de;have Z:=Ao r.has;have p:=Ao f;clear r f;go_enter func16,ntmps16;go_wp2_with fail;refine(a.out).mono ?_;rintro e w1 ⟨rfl,q⟩;have d:=Ao ((p.out.below q).below (Ac w1 (.cells #[.string x,.int .i64 n,.string y,.string k,.string g] 80)));have b:=Ao (q.trans ((Ac w1 (.cells #[.string x,.int .i64 n,.string y,.string k,.string g] 80)).mono q.size));have q7:=b.out.size;obtain⟨v,h1,h2⟩:=d.out;obtain⟨ao,cap,rfl⟩:=h2.form;have t:=(p.out.below q);obtain⟨v',o,V⟩:=t;have t:=o.lt;have q6:bb≠w1.heap.size:=by omega
 have c0:=h1.cell 0;have l:=Ao h1;have Q:=Ao (h2.below (Ag _ _).drew);clear h1 h2 p a d o V;have z:(w1.alloc (.cells #[.string x,.int .i64 n,.string y,.string k,.string g] 80)).heap.size=w1.heap.size+1:=by simp
 obtain⟨q0,q1,q2,q3,q4⟩:=(Aw.new w1 [.string x,.int .i64 n,.string y,.string k,.string g] 80).c5;go_wp2_with fail;generalize K:(w1.alloc (.cells #[.string x,.int .i64 n,.string y,.string k,.string g] 80))=u at*;generalize w1.heap.size=i at*;clear K q
 go_region_with (first|(go_at_call 39;refine(J.out _).mono ?_;rintro e w2 ⟨rfl,c,j⟩;have q5:=(l.out.drew.below j).cell 0)|(go_at_call 38;refine(Z.out w2 ao cap (i+1) (Q.out.below j) (by rw[<-z];exact c)).mono ?_;rintro e w3 ⟨rfl,m⟩))
 all_goals
  have Y:=b.out.drew.trans ((j.trans (m.mono j.size)).mono (by simp;omega));go_wp2_with fail;go_ret2;exact⟨rfl,Y⟩
open Go.RowKit Go.WideMaps Go.Maps
attribute [local go_sem] AE As
theorem Q6(w:World)(base bb:Nat)(ds:List Bd)(f:Dm w base bb ds)(s:ByteArray)(x y k g:ByteArray)(n:Int)(r:QJ base bb ds s false x y k g n):
 Calls prog 18 #[.pointer (some ⟨bb,0,none⟩),.string s] w fun e w'=>e=.returned (.tuple #[.int .i64 8,.int .i64 0])/\Below w.heap.size w w':=by
 have a:=Ao (r.reads w f);have J:=Ao r.de;have Z:=Ao r.has;have p:=Ao f;clear r f;go_enter func18,ntmps18;go_wp2_with fail;refine(a.out).mono ?_;rintro e w1 ⟨rfl,q⟩;have d:=Ao ((p.out.below q).below (Ac w1 (.cells #[.string x,.int .i64 n,.string y,.string k,.string g] 80)));have b:=Ao (q.trans ((Ac w1 (.cells #[.string x,.int .i64 n,.string y,.string k,.string g] 80)).mono q.size));have q7:=b.out.size;obtain⟨v,h1,h2⟩:=d.out;obtain⟨ao,cap,rfl⟩:=h2.form;have t:=(p.out.below q);obtain⟨v',o,V⟩:=t;have t:=o.lt;have q6:bb≠w1.heap.size:=by omega
 have c0:=h1.cell 0;have l:=Ao h1;have Q:=Ao (h2.below (Ag _ _).drew);clear h1 h2 p a d o V;have z:(w1.alloc (.cells #[.string x,.int .i64 n,.string y,.string k,.string g] 80)).heap.size=w1.heap.size+1:=by simp
 obtain⟨q0,q1,q2,q3,q4⟩:=(Aw.new w1 [.string x,.int .i64 n,.string y,.string k,.string g] 80).c5;go_wp2_with fail;generalize K:(w1.alloc (.cells #[.string x,.int .i64 n,.string y,.string k,.string g] 80))=u at*;generalize w1.heap.size=i at*;clear K q
 go_region_with (first|(go_at_call 39;refine(J.out _).mono ?_;rintro e w2 ⟨rfl,c,j⟩;have q5:=(l.out.drew.below j).cell 0)|(go_at_call 38;refine(Z.out w2 ao cap (i+1) (Q.out.below j) (by rw[<-z];exact c)).mono ?_;rintro e w3 ⟨rfl,m⟩))
 all_goals
  have Y:=b.out.drew.trans ((j.trans (m.mono j.size)).mono (by simp;omega));go_wp2_with fail;go_ret2;exact⟨rfl,Y⟩
end
section
attribute [local go_sem] AE As
open Go.RowKit Go.WideMaps Go.Maps
theorem XY(g:Nat)(vs:List Value)(o:Nat)(w:World):Bg g w (w.setCells g o vs):=by
 induction vs generalizing o w with
 |nil=>exact Bg.refl _ _
 |cons v r q=>exact(Bg.setCell (b:=g) w (p:=⟨g,o,none⟩) rfl v).trans (q (o+1) _)
theorem Bg.grownBy{g:Nat}{w w':World}(h:Bg g w w'):w.grownBy w' (some g):=⟨h.os,h.tape,h.output,h.size,fun k q hn=>h.block k q (fun e=>hn (by rw[e]))⟩
theorem cC(g:Nat)(vs:List Value)(o:Nat)(w:World)(cs:List Value)(t:TypeId)(h:Aw w g cs t):∃cs',Aw (w.setCells g o vs) g cs' t/\cs'.length=cs.length/\∀k,k<=o->cs'.take k=cs.take k:=by
 induction vs generalizing o w cs with
 |nil=>exact⟨cs,h,rfl,fun _ _=>rfl⟩
 |cons v r q=>obtain⟨cs',h1,h2,h3⟩:=q (o+1) _ _ (h.setCell o v);refine⟨cs',h1,by rw[h2,Pj],?_⟩;intro k hk;rw[h3 k (by omega),List.take_set_of_le (by omega)]
theorem eV{w:World}{base:Nat}{e:TypeId}{size g n cap:Nat}{xs:List Value}(h:w.ownsRow base e size (.slice (some ⟨g,0,none⟩) n cap) n xs)(m:Nat)(u:m<=n)(vs:List Value):
 (w.setCells g (m*size) vs).ownsRow base e size (.slice (some ⟨g,0,none⟩) m cap) m (xs.take (m*size)):=by
 rcases h.2 with⟨h1,_⟩|⟨g',q0,cur,j,y,k,hc,v,hs,hx⟩
 ·simp at h1
 ·simp only[Bx,Al,BM,lT,Dx]at j;obtain⟨rfl,rfl⟩:=j;have z:Aw w g cur.toList e:=by unfold Aw;simpa using k
  obtain⟨cs',b,d,t⟩:=cC g vs (m*size) w cur.toList e z;have q:m*size<=n*size:=E3 _ u;refine⟨?_,.inr ⟨g,cap,cs'.toArray,rfl,y,b,by omega,v,?_,?_⟩⟩
  ·rw[Dz,h.1];omega
  ·simp[d,hs]
  ·simp only[];rw[t _ (Ab _),<-hx,List.take_take,Nat.min_eq_left q]
end
end Go.Proofs.YtpbfiffgcgnidaaGreatDoor
