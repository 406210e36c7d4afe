import Derived.Test.YtpbfiffgcgnidaaGreatDoorYal
import Derived.Test.YtpbfiffgcgnidaaGreatDoorY22
import Derived.Test.YtpbfiffgcgnidaaGreatDoorY24
namespace Go.Proofs.YtpbfiffgcgnidaaGreatDoor
set_option maxRecDepth 100000
set_option maxHeartbeats 4000000
set_option linter.unusedSimpArgs false
open Go.Proofs.Tryz
section
attribute [local go_sem] AE As
open Go.RowKit Go.WideMaps Go.Maps
def Wj(w:World)(s:ByteArray)(e:Ending)(w':World):Prop:=e=.returned (.tuple #[.agg zA.toArray,.agg zS.toArray,.int .i64 (Bn s (JX s s.data.toList):Nat),.bool false])/\Below w.heap.size w w'
theorem Lx(w:World)(s:ByteArray)(hs:s.size<=2000)(hok:(Cc s).ok=false):Calls prog 104 #[.string s] w fun e w'=>Wj w s e w':=by
 have q1:s.size<=maxLen:=by unfold maxLen;omega
 have g:=Aw.new ((w.alloc (.cells zA.toArray 80)).alloc (.cells zS.toArray 141)) [.string s,.int .i64 0] 114;have o:((w.alloc (.cells zA.toArray 80)).alloc (.cells zS.toArray 141)).heap.size=w.heap.size+1+1:=by simp
 rw[o]at g;have a:Rd (((w.alloc (.cells zA.toArray 80)).alloc (.cells zS.toArray 141)).alloc (.cells #[.string s,.int .i64 0] 114)) (w.heap.size+1+1) s s.data.toList:=⟨0,by omega,by simp,g⟩;have x:=((Aw.new w zA 80).alloc (.cells zS.toArray 141)).alloc (.cells #[.string s,.int .i64 0] 114);have f:=(C9 w (.cells zA.toArray 80) zS 141).alloc (.cells #[.string s,.int .i64 0] 114);have n:Below w.heap.size w (((w.alloc (.cells zA.toArray 80)).alloc (.cells zS.toArray 141)).alloc (.cells #[.string s,.int .i64 0] 114)):=(((Ag _ w).alloc (Ab _) _).alloc (by simp) _).alloc (by simp;omega) _;clear g o;have b:=Ao (JA _ (w.heap.size+1+1) s s.data.toList a (by omega));obtain⟨A,i⟩:∃A,Hid (A=Cc s):=⟨_,rfl⟩;have y:Hid (Bf s s.data.toList=A):=i.out.symm;have m:=Ao f;have t:=Ao x;have d:=Ao n;clear a f x n;obtain⟨p,r⟩:∃p,Hid (Bn s (JX s s.data.toList)=p):=⟨_,rfl⟩;have c:=Ao (show Bn s A.rest=p by rw[<-r.out];unfold JX;rw[y.out,i.out,hok];rfl);rw[<-i.out]at hok;clear i;go_enter func104,ntmps104;go_wp2_with fail;refine(b.out).mono ?_;rintro e w1 ⟨J,j,q⟩;rw[y.out]at J j;rw[IP.cj,hok]at J;subst J;have q0:w.heap.size+1+1<w1.heap.size:=j.lt;have k:=t.out.kept q (by omega);have u:=m.out.kept q (by omega);have z:Below w.heap.size w w1:=d.out.trans (q.below (by omega) (by simp;omega));clear b d t m;have Q:w1.cell? ⟨w.heap.size+1+1,1,none⟩=some (.int .i64 (Bn s A.rest:Nat)):=j.at.1.cell 1;rw[c.out]at Q;have fP:=k.frozen;have fQ:=u.frozen;obtain⟨a0,a1,a2,a3,a4⟩:=k.c5;obtain⟨s0,s1,s2,s3,s4⟩:=u.c5;have q2:w.heap.size<w1.heap.size:=by omega
 have q3:w.heap.size+1<w1.heap.size:=by omega
 have q4:w.heap.size<w1.heap.size+1:=by omega
 have q5:w.heap.size+1<w1.heap.size+1:=by omega
 have q6:w.heap.size+1+1<w1.heap.size+1:=by omega
 have l:=Ao z;clear k u j q z hok y c;go_wp2_with fail;go_region
 all_goals go_wp2_with fail
 all_goals
  refine Aq (v:=.tuple #[.agg #[.string ⟨#[]⟩,.int .i64 0,.string ⟨#[]⟩,.string ⟨#[]⟩,.string ⟨#[]⟩],.agg #[.int .i64 0,.int .i64 0,.int .i64 0,.int .i64 0,.int .i64 0],.int .i64 (p:Nat),.bool false]) (by simp[results,results104,go_sem, *]) rfl ⟨?_,?_⟩
  ·rw[<-r.out];rfl
  ·refine DB ?_;refine DU ?_ (by simp;omega) _;refine DU ?_ (by simp;omega) _
   repeat (refine AQ ?_ (by simp only[];omega) _)
   exact l.out
theorem Lw(w:World)(s:ByteArray)(hs:s.size<=2000)(hok:(Cc s).ok=true)(q:(AD (Cc s).rest).isEmpty=false):Calls prog 104 #[.string s] w fun e w'=>Wj w s e w':=by
 have M:s.size<=maxLen:=by unfold maxLen;omega
 have r:=Aw.new ((w.alloc (.cells zA.toArray 80)).alloc (.cells zS.toArray 141)) [.string s,.int .i64 0] 114;have G:((w.alloc (.cells zA.toArray 80)).alloc (.cells zS.toArray 141)).heap.size=w.heap.size+1+1:=by simp
 rw[G]at r;have V:Rd (((w.alloc (.cells zA.toArray 80)).alloc (.cells zS.toArray 141)).alloc (.cells #[.string s,.int .i64 0] 114)) (w.heap.size+1+1) s s.data.toList:=⟨0,by omega,by simp,r⟩;have J:=((Aw.new w zA 80).alloc (.cells zS.toArray 141)).alloc (.cells #[.string s,.int .i64 0] 114);have Y:=(C9 w (.cells zA.toArray 80) zS 141).alloc (.cells #[.string s,.int .i64 0] 114);have Q:Below w.heap.size w (((w.alloc (.cells zA.toArray 80)).alloc (.cells zS.toArray 141)).alloc (.cells #[.string s,.int .i64 0] 114)):=(((Ag _ w).alloc (Ab _) _).alloc (by simp) _).alloc (by simp;omega) _;clear r G;have c:=Ao (JA _ (w.heap.size+1+1) s s.data.toList V (by omega));obtain⟨A,B⟩:∃A,Hid (A=Cc s):=⟨_,rfl⟩;have u:Hid (Bf s s.data.toList=A):=B.out.symm;have i:=Ao Y;have x:=Ao J;have m:=Ao Q;clear V Y J Q;obtain⟨p,a⟩:∃p,Hid (Bn s (JX s s.data.toList)=p):=⟨_,rfl⟩;have o:=Ao (show Bn s (AD A.rest)=p by rw[<-a.out];unfold JX;rw[u.out,B.out,hok];rfl);rw[<-B.out]at hok q;clear B;go_enter func104,ntmps104;go_wp2_with fail;refine(c.out).mono ?_;rintro e w1 ⟨C,y,j⟩;rw[u.out]at C y;rw[IP.cj,hok]at C;subst C;have q0:w.heap.size+1+1<w1.heap.size:=y.lt;have Z:=x.out.kept j (by omega);have K:=i.out.kept j (by omega);have k:Below w.heap.size w w1:=m.out.trans (j.below (by omega) (by simp;omega));clear c m x i;have g:=Ao (KG _ (w.heap.size+1+1) s A.rest ((y.alloc (.cells #[.string A.nm,.int .i64 A.cn,.string (A.t 0),.string (A.t 1),.string (A.t 2)] 80)).alloc (.cells #[.int .i64 0,.int .i64 A.cw,.int .i64 (A.p 0),.int .i64 (A.p 1),.int .i64 (A.p 2)] 141)) M);rw[q]at g;have f:=Ao ((Z.alloc (.cells #[.string A.nm,.int .i64 A.cn,.string (A.t 0),.string (A.t 1),.string (A.t 2)] 80)).alloc (.cells #[.int .i64 0,.int .i64 A.cw,.int .i64 (A.p 0),.int .i64 (A.p 1),.int .i64 (A.p 2)] 141));have l:=Ao ((K.alloc (.cells #[.string A.nm,.int .i64 A.cn,.string (A.t 0),.string (A.t 1),.string (A.t 2)] 80)).alloc (.cells #[.int .i64 0,.int .i64 A.cw,.int .i64 (A.p 0),.int .i64 (A.p 1),.int .i64 (A.p 2)] 141));have n:=Ao ((k.alloc (by omega) (.cells #[.string A.nm,.int .i64 A.cn,.string (A.t 0),.string (A.t 1),.string (A.t 2)] 80)).alloc (by simp;omega) (.cells #[.int .i64 0,.int .i64 A.cw,.int .i64 (A.p 0),.int .i64 (A.p 1),.int .i64 (A.p 2)] 141));clear Z K k q hok j y u;go_wp2_with fail;refine(g.out).mono ?_;rintro e w2 ⟨rfl,U,z⟩;have P:w2.cell? ⟨w.heap.size+1+1,1,none⟩=some (.int .i64 (Bn s (AD A.rest):Nat)):=U.at.1.cell 1;rw[o.out]at P;have b:=f.out.kept z (by omega);have d:=l.out.kept z (by omega);have fP:=b.frozen;have fQ:=d.frozen;have R:=Ao (n.out.trans (z.below (by omega) (by simp;omega)));obtain⟨a0,N,X,S,E⟩:=b.c5;obtain⟨O,I,L,H,W⟩:=d.c5;clear g f l n z U b d o;go_wp2_with fail;go_region
 all_goals go_wp2_with fail
 all_goals
  refine Aq (v:=.tuple #[.agg #[.string ⟨#[]⟩,.int .i64 0,.string ⟨#[]⟩,.string ⟨#[]⟩,.string ⟨#[]⟩],.agg #[.int .i64 0,.int .i64 0,.int .i64 0,.int .i64 0,.int .i64 0],.int .i64 (p:Nat),.bool false]) (by simp[results,results104,go_sem,a0,N,X,S,E,O,I,L,H,W]) rfl ⟨?_,?_⟩
  ·rw[<-a.out];rfl
  ·refine DB ?_
   repeat (refine AQ ?_ (by simp only[];omega) _)
   exact R.out
theorem Ng(w:World)(s:ByteArray)(hs:s.size<=2000)(q:U4 s s.data.toList=false):Calls prog 104 #[.string s] w fun e w'=>Wj w s e w':=by
 cases hok:(Cc s).ok
 ·exact Lx w s hs hok
 ·refine Lw w s hs hok ?_;unfold U4 at q;rw[show Bf s s.data.toList=Cc s from rfl,hok,BD]at q;exact q
theorem NV(w:World)(base bb:Nat)(ds:List Bd)(k:Dm w base bb ds)(hW:∀d∈ds,d.WF)(hn:ds.length<=40)(s:ByteArray)(hs:s.size<=2000)(hok:(Cc s).ok=true)(j:(AD (Cc s).rest).isEmpty=true)
 (q:BZ (Cv ds).1 (Cc s).name=true)(z:Y4 (Cv ds).2 (CI (Cv ds).1 (Cc s).name)≠((Cc s).ts.length:Nat))(y:(Cc s).name.length<=12):
 Calls prog 68 #[.pointer (some ⟨bb,0,none⟩),.string s] w fun e w'=>e=.returned (.tuple #[.agg zA.toArray,.agg zS.toArray,.int .i64 3,.int .i64 ((Cc s).np:Nat)])/\Below w.heap.size w w':=
 Jl w base bb ds k hW hn s hs hok j false (.inl ⟨q,by rw[Az];exact z⟩) y
theorem Rf(w:World)(base bb:Nat)(ds:List Bd)(y:Dm w base bb ds)(hW:∀d∈ds,d.WF)(hn:ds.length<=40)(s:ByteArray)(hs:s.size<=2000)(hok:(Cc s).ok=true)(j:(AD (Cc s).rest).isEmpty=true)
 (q:BZ (Cv ds).1 (Cc s).name=false)(z:(Cc s).name.length<=12):
 Calls prog 68 #[.pointer (some ⟨bb,0,none⟩),.string s] w fun e w'=>e=.returned (.tuple #[.agg (Bp (Cc s).name (Cc s).ts).toArray,.agg (CA 0 (Cc s).np (Cc s).ps).toArray,.int .i64 0,.int .i64 0])/\Below w.heap.size w w':=
 Jl w base bb ds y hW hn s hs hok j true (.inr ⟨q,rfl⟩) z
theorem Pv(w:World)(bb:Nat)(s:ByteArray)(hs:s.size<=maxLen)(h:2000<s.size):
 Calls prog 68 #[.pointer (some ⟨bb,0,none⟩),.string s] w fun e w'=>e=.returned (.tuple #[.agg zA.toArray,.agg zS.toArray,.int .i64 1,.int .i64 0])/\Below w.heap.size w w':=by
 have q:=hs;unfold maxLen at q;have hq:(2000:Int)<(s.size:Int):=by omega
 go_enter func68,ntmps68;go_wp2;refine Aq (v:=.tuple #[.agg zA.toArray,.agg zS.toArray,.int .i64 1,.int .i64 0]) (by simp[results,results68,go_sem,zA,zS]) rfl ⟨rfl,?_⟩;exact((Ag _ w).alloc (Ab _) _).alloc (by simp) _
theorem Pw(w:World)(bb:Nat)(s:ByteArray)(hs:s.size<=2000)(d:U4 s s.data.toList=false):
 Calls prog 68 #[.pointer (some ⟨bb,0,none⟩),.string s] w fun e w'=>e=.returned (.tuple #[.agg zA.toArray,.agg zS.toArray,.int .i64 2,.int .i64 (Bn s (JX s s.data.toList):Nat)])/\Below w.heap.size w w':=by
 have hq:¬((2000:Int)<(s.size:Int)):=by omega
 have t:=Ao (fun W=>Ng W s hs d);have g:=EI w zA 80 zS 141;have b:=C9 w (.cells zA.toArray 80) zS 141;have k:Below w.heap.size w ((w.alloc (.cells zA.toArray 80)).alloc (.cells zS.toArray 141)):=((Ag _ w).alloc (Ab _) _).alloc (by simp) _;obtain⟨p,y⟩:∃p,Hid (Bn s (JX s s.data.toList)=p):=⟨_,rfl⟩;rw[y.out];go_enter func68,ntmps68;go_wp2_with fail;refine(t.out _).mono ?_;rintro e w1 ⟨r,z⟩;rw[y.out]at r;subst r;have q:=g.below z;have j:=b.below z;have fP:=q.frozen;have fQ:=j.frozen;obtain⟨a0,a1,a2,a3,a4⟩:=q.c5;obtain⟨s0,s1,s2,s3,s4⟩:=j.c5;have q0:=q.lt;have q1:=j.lt;have q2:w.heap.size<w1.heap.size+1:=by omega
 have q3:w.heap.size+1<w1.heap.size+1:=by omega
 have u:Below w.heap.size w w1:=k.trans (z.mono (by simp;omega));clear g b k q j t;unfold zA zS;go_wp2_with fail;refine Aq (v:=.tuple #[.agg zA.toArray,.agg zS.toArray,.int .i64 2,.int .i64 (p:Nat)]) (by simp[results,results68,go_sem,zA,zS, *]) rfl ⟨rfl,?_⟩;refine DU ?_ (by simp;omega) _;refine DU ?_ (by simp;omega) _
 repeat (refine AQ ?_ (by simp only[];omega) _)
 exact u
end
end Go.Proofs.YtpbfiffgcgnidaaGreatDoor
