import Derived.Test.YtpbfiffgcgnidaaGreatDoorYal
import Derived.Test.YtpbfiffgcgnidaaGreatDoorY33
import Derived.Test.YtpbfiffgcgnidaaGreatDoorY39
namespace Go.Proofs.YtpbfiffgcgnidaaGreatDoor
set_option maxRecDepth 100000
set_option maxHeartbeats 4000000
set_option linter.unusedSimpArgs false
open Go.Proofs.Tryz
section
attribute [local go_sem] AE As
open Go.RowKit Go.WideMaps Go.Maps
def BR:List Dw->(B8->Nat)×Bool->(B8->Nat)×Bool
 |[],x=>x
 |e::r,x=>BR r (FI e x.1,x.2||decide (x.1 e.h<x.1 e.b+e.w))
theorem II(A B:List Dw)(x:(B8->Nat)×Bool):BR (A++B) x=BR B (BR A x):=by
 induction A generalizing x with
 |nil=>rfl
 |cons e r q=>rw[List.cons_append,BR,BR,q]
theorem P2(E:List Dw)(L:B8->Nat)(z:∀p,Og E L p=L p)(A:List Dw)(q:∀e∈A,e∈E)(x:(B8->Nat)×Bool)(j:∀p,x.1 p<=L p):∀p,(BR A x).1 p<=L p:=by
 induction A generalizing x with
 |nil=>exact j
 |cons e r v=>exact v (fun y k=>q y (by simp[k])) _ (XB E L z e (q e (by simp)) x.1 j)
theorem XC(e:Dw)(f:B8->Nat)(p:B8):f p<=FI e f p:=by
 unfold FI
 split
 ·rename_i h;rw[h.1];omega
 ·exact Ab _
theorem P3(A:List Dw)(x:(B8->Nat)×Bool)(p:B8):x.1 p<=(BR A x).1 p:=by
 induction A generalizing x with
 |nil=>exact Ab _
 |cons e r q=>exact Ay (XC e x.1 p) (q (FI e x.1,x.2||decide (x.1 e.h<x.1 e.b+e.w)))
theorem SU(A:List Dw)(f:B8->Nat):(BR A (f,true)).2=true:=by
 induction A generalizing f with
 |nil=>rfl
 |cons e r q=>rw[BR,KN];exact q _
theorem It(e:Dw)(f:B8->Nat)(h:¬f e.h<f e.b+e.w):FI e f=f:=by
 funext p
 unfold FI;rw[Af (fun x=>h x.2)]
theorem Ly(A:List Dw)(f:B8->Nat)(h:(BR A (f,false)).2=false):(BR A (f,false)).1=f/\∀e∈A,f e.b+e.w<=f e.h:=by
 induction A generalizing f with
 |nil=>exact⟨rfl,by simp⟩
 |cons e r q=>
  by_cases hn:f e.h<f e.b+e.w
  ·have hc:BR (e::r) (f,false)=BR r (FI e f,true):=by simp[BR,hn]
   rw[hc,SU]at h;cases h
  ·have hc:BR (e::r) (f,false)=BR r (f,false):=by simp[BR,hn,It e f hn]
   rw[hc]at h⊢;obtain⟨h1,h2⟩:=q f h;refine⟨h1,fun x hx=>?_⟩;rcases List.mem_cons.1 hx with rfl|hx
   ·omega
   ·exact h2 x hx
theorem SV(A:List Dw)(f:B8->Nat)(h:(BR A (f,false)).2=true):∃e∈A,f e.h<(BR A (f,false)).1 e.h:=by
 induction A generalizing f with
 |nil=>simp[BR]at h
 |cons e r q=>
  by_cases hn:f e.h<f e.b+e.w
  ·have hc:BR (e::r) (f,false)=BR r (FI e f,true):=by simp[BR,hn]
   rw[hc];refine⟨e,by simp,?_⟩;have h1:f e.h<FI e f e.h:=by unfold FI;rw[Ai ⟨rfl,hn⟩];exact hn
   exact AH h1 (P3 r (FI e f,true) e.h)
  ·have hc:BR (e::r) (f,false)=BR r (f,false):=by simp[BR,hn,It e f hn]
   rw[hc]at h⊢;obtain⟨x,hx,h1⟩:=q f h;exact⟨x,by simp[hx],h1⟩
def Bd.ai(d:Bd):List Dw:=d.lits.map fun l=>⟨d.name,l.name,l.neg⟩
def CV(ds:List Bd):List Dw:=ds.flatMap Bd.ai
theorem TQ(ds:List Bd)(i:Nat)(h:i<ds.length):CV (ds.take (i+1))=CV (ds.take i)++ds[i].ai:=by unfold CV;rw[Ad h,BG,Ca]
theorem VC(ds:List Bd)(i k:Nat)(h:i<ds.length):∀e∈CV (ds.take i)++ds[i].ai.take k,e∈CV ds:=by
 intro e q;unfold CV at*;rw[Bi,C5]at q;rw[C5];rcases q with⟨d,hd,q⟩|q
 ·exact⟨d,Dy hd,q⟩
 ·exact⟨ds[i],Aj h,Dy q⟩
theorem VB(d:Bd)(k:Nat)(h:k<d.lits.length)(x:(B8->Nat)×Bool):BR (d.ai.take (k+1)) x=(FI ⟨d.name,d.lits[k].name,d.lits[k].neg⟩ (BR (d.ai.take k) x).1,(BR (d.ai.take k) x).2||decide ((BR (d.ai.take k) x).1 d.name<(BR (d.ai.take k) x).1 d.lits[k].name+(if d.lits[k].neg then 1 else 0))):=by
 have j:k<d.ai.length:=by simpa[Bd.ai]using h
 rw[Ad j,II];have q:d.ai[k]=⟨d.name,d.lits[k].name,d.lits[k].neg⟩:=by simp[Bd.ai]
 rw[q];rfl
theorem Mi(U:List B8)(k:B8)(h:k∈U):CI U k=U.idxOf k:=by unfold CI;rw[Ai h]
theorem Ov(U:List B8)(k:B8)(h:k∈U):BZ U k=true:=List.contains_iff_mem.2 h
theorem Hj(w:World)(base sb:Nat)(mv lv:Value)(U:List B8)(hC:Aw w sb [mv,lv] 178)(hS:Cr w base mv lv U)(g:Nat)(f:B8->Nat)(u:Aw w g (Gb U f) 3)(nm:B8)(q:nm∈U)(hl:nm.length<=12)(hf:f nm<=1000)(neg:Bool)(c:Int)(t0 t1 t2:ByteArray):
 Calls prog 108 #[.agg #[.string (bs nm),.int .i64 c,.string t0,.string t1,.string t2,.bool neg],.pointer (some ⟨sb,0,none⟩),.slice (some ⟨g,0,none⟩) U.length U.length] w fun e w'=>e=.returned (.int .i64 ((f nm+(if neg then 1 else 0):Nat):Int))/\Below w.heap.size w w':=by
 have hp:=B9 q;have b:=u.cell (U.idxOf nm);rw[Kq U f nm q]at b;have v:=Ao (Mi U nm q);have k:=Ao (Ov U nm q);have q0:=u.lt;generalize U.idxOf nm=pos at*;generalize f nm=fx at*;have j:=Ac w (.cells #[.string (bs nm),.int .i64 c,.string t0,.string t1,.string t2,.bool neg] 186);cases neg
 ·go_enter func108,ntmps108;go_wp2_with (go_at_call 75;refine(J8 _ base sb mv lv [] 178 U nm (by exact hC.alloc _) (by exact hS.alloc _) (by unfold maxLen;omega)).mono ?_;rintro e w2 ⟨z,y⟩;subst w2;rw[v.out,k.out]at z;subst z)
  go_ret
  exact⟨rfl,j⟩
 ·go_enter func108,ntmps108;go_wp2_with (go_at_call 75;refine(J8 _ base sb mv lv [] 178 U nm (by exact hC.alloc _) (by exact hS.alloc _) (by unfold maxLen;omega)).mono ?_;rintro e w2 ⟨z,y⟩;subst w2;rw[v.out,k.out]at z;subst z)
  go_ret
  exact⟨rfl,j⟩
end
section
open Go.RowKit Go.WideMaps Go.Maps
def Nc(U:List B8)(f:B8->Nat):Nat:=(U.map f).sum
theorem Wr(U:List B8)(f g:B8->Nat)(h:∀p,f p<=g p):Nc U f<=Nc U g:=by
 unfold Nc
 induction U with
 |nil=>exact Ab _
 |cons x r ih=>have:=h x;simp only[A6,List.sum_cons];omega
theorem eA(U:List B8)(f g:B8->Nat)(h:∀p,f p<=g p)(x:B8)(hx:x∈U)(hl:f x<g x):Nc U f<Nc U g:=by
 unfold Nc
 induction U with
 |nil=>simp at hx
 |cons y r q=>
  have h1:=h y;have h2:=Wr r f g h;unfold Nc at h2;simp only[A6,List.sum_cons];rcases List.mem_cons.1 hx with rfl|hx
  ·omega
  ·have:=q hx;omega
def UY(w:World)(g n:Nat):Nat:=((List.range n).map fun i=>(intOf ((w.cell? ⟨g,i,none⟩).getD (.int .i64 0))).toNat).sum
theorem P0(w:World)(g:Nat)(U:List B8)(f:B8->Nat)(h:Aw w g (Gb U f) 3):UY w g U.length=Nc U f:=by
 unfold UY Nc;congr 1;apply E5;intro i;rw[Ba,Ba];by_cases q:i<U.length
 ·rw[List.getElem?_range q,Ar q,Option.map_some,Option.map_some,h.cell i];unfold Gb;rw[Ba,Ar q];simp[intOf]
 ·rw[Di (by simpa using q),Di (by omega)];rfl
theorem U2(E:List Dw)(U:List B8)(hU:∀e∈E,e.h∈U)(f:B8->Nat)(h:(BR E (f,false)).2=true):Nc U f<Nc U (BR E (f,false)).1:=by obtain⟨e,q,h1⟩:=SV E f h;exact eA U _ _ (fun p=>P3 E (f,false) p) e.h (hU e q) h1
theorem Zj(E:List Dw)(U:List B8)(f:B8->Nat)(q:∀p,f p<=D9 E U.length p)(h:(BR E (f,false)).2=false):f=D9 E U.length:=by
 funext p
 exact Nat.le_antisymm (q p) (Zk E f U.length (Ly E f h).2 p)
theorem Wd(l xs:List B8)(x:B8):x∈Ik xs l↔x∈xs\/x∈l:=by
 unfold Ik
 induction l generalizing xs with
 |nil=>simp
 |cons a r q=>
  rw[List.foldl_cons,q];unfold DT
  split
  ·rename_i h;have:a∈xs:=List.contains_iff_mem.1 h;constructor
   ·rintro(h|h)
    ·exact .inl h
    ·exact .inr (by simp[h])
   ·rintro(h|h)
    ·exact .inl h
    ·rcases List.mem_cons.1 h with rfl|h
     ·exact .inl this
     ·exact .inr h
  ·simp only[Bi,Br,dR,lU];exact or_assoc
theorem K1(cs:List RC):DL (cs.map RC.d)=CZ (A2 cs):=by
 unfold DL CZ Ik A2;rw[<-List.foldl_map (f:=RA.name) (g:=DT)];congr 1;rw[JC,Np];congr 1
 funext c
 simp[Bd.a8,Bd.atoms,RC.d,RA.lit]
theorem OC(cs:List RC):CV (cs.map RC.d)=BJ cs:=by
 unfold CV BJ;rw[JC];congr 1
 funext c
 simp[Bd.ai,RC.ai,RC.d,RA.lit]
theorem I0(cs:List RC):WU cs (CZ (A2 cs)):=by
 rw[<-K1];intro c hc;have h:∀x,x∈(c.d).a8->x∈DL (cs.map RC.d):=by intro x hx;unfold DL;rw[Wd,C5];exact .inr ⟨c.d,List.mem_map.2 ⟨c,hc,rfl⟩,hx⟩
 refine⟨h _ (by simp[Bd.a8,Bd.atoms,RC.d]),fun a q=>h _ ?_⟩;simp only[Bd.a8,Bd.atoms,RC.d,A6,C6,Br,C4];exact .inr ⟨a,q,rfl⟩
def PC(cs:List RC)(nm:B8):Int:=if nm∈CZ (A2 cs) then(D9 (BJ cs) (CZ (A2 cs)).length nm:Nat) else-1
end
section
attribute [local go_sem] AE As
open Go.RowKit Go.WideMaps Go.Maps
theorem aG(U:List B8)(hU:U.Nodup)(x:B8)(i:Nat)(hi:i<U.length)(h:i≠U.idxOf x):U[i]≠x:=by intro q;apply h;rw[<-q,hU.idxOf_getElem]
theorem SP(U:List B8)(hU:U.Nodup)(f:B8->Nat)(x:B8)(hx:x∈U)(v:Nat):Gb U (fun p=>if p=x then v else f p)=(Gb U f).set (U.idxOf x) (.int .i64 (v:Nat)):=by
 unfold Gb;apply E5;intro i;rw[Ba,DM,AK,Ba];by_cases j:i<U.length
 ·rw[Ar j];by_cases q:U.idxOf x=i
  ·rw[Ai q,Ai (by omega)];subst q;simp[List.getElem_idxOf]
  ·rw[Af q];have:=aG U hU x i j (fun h=>q h.symm);simp[this]
 ·have h1:=B9 hx;rw[Di (by omega),Af (by omega)];rfl
theorem P4(e:Dw)(f:B8->Nat)(h:f e.h<f e.b+e.w):FI e f=fun p=>if p=e.h then f e.b+e.w else f p:=by
 funext p
 unfold FI;by_cases q:p=e.h
 ·rw[Ai ⟨q,h⟩,Ai q]
 ·rw[Af (fun x=>q x.1),Af q]
theorem R2(l xs:List B8)(h:xs.Nodup):(Ik xs l).Nodup:=by
 unfold Ik
 induction l generalizing xs with
 |nil=>exact h
 |cons a r q=>exact q _ (OV h)
theorem eM(w0 w:World)(q0:Below w0.heap.size w0 w)(base:Nat)(ao:Option Addr)(cap:Nat)(ds:List Bd)(hP:AY w0 base (.slice ao ds.length cap) ds)(hW:∀d∈ds,d.WF)(hn:ds.length<=40)(sbase sb:Nat)(mv lv:Value)(U:List B8)(hUd:U.Nodup)(hC:Aw w0 sb [mv,lv] 178)(hS:Cr w0 sbase mv lv U)
 (hU:∀d∈ds,d.name∈U/\∀l∈d.lits,l.name∈U)(g:Nat)(hg:w0.heap.size<=g)(f L:B8->Nat)(hL:∀p,Og (CV ds) L p=L p)(G:∀p,L p<=200)(hf:∀p,f p<=L p)(a:Aw w g (Gb U f) 3):
 Calls prog 77 #[.slice ao ds.length cap,.pointer (some ⟨sb,0,none⟩),.slice (some ⟨g,0,none⟩) U.length U.length] w fun e w'=>e=.returned (.bool (BR (CV ds) (f,false)).2)/\Aw w' g (Gb U (BR (CV ds) (f,false)).1) 3/\Below w0.heap.size w0 w':=by
 have q6:=Ao (fun A (hA:∀e∈A,e∈CV ds)=>P2 (CV ds) L hL A hA (f,false) hf);have I:=Ao G;have j1:=Ao hU;have W:=Ao hUd;have j3:=Ao hW;clear hL G hf hU hUd hW;go_enter func77,ntmps77;go_wp2
 go_loopw [7,17] (fun gv iv wr=>∃(k:Nat),k<=ds.length/\iv=.int .i64 k/\gv=.bool (BR (CV (ds.take k)) (f,false)).2/\Aw wr g (Gb U (BR (CV (ds.take k)) (f,false)).1) 3/\Below w0.heap.size w0 wr) (fun _ iv _=>ds.length-(intOf iv).toNat)
 case atStart=>exact⟨0,by omega,rfl,rfl,a,q0⟩
 case round=>
  clear a q0;obtain⟨k,hk,rfl,rfl,a,y⟩:=hrel;by_cases Q:k<ds.length
  ·obtain⟨gc,bo,bcap,j4,o,e0,e1,e2,e3,e4,e5,G⟩:=FB hP k Q;subst j4;have E:=j3.out ds[k] (Aj Q);have j0:=Ao (TQ ds k Q);have H:=Ao (fun j=>VC ds k j Q);have s:=Ao (j1.out ds[k] (Aj Q));have z0:ds[k].name.length<=12:=(E.words (ds[k].name,ds[k].ts) (by simp[Bd.atoms])).1;have j2:Hid (∀l∈ds[k].lits,l.name.length<=12):=fun l hl=>(E.words (l.name,l.ts) (by simp only[Bd.atoms,Br,C4];exact .inr ⟨l,hl,rfl⟩)).1;have q8:Hid (ds[k].nm=bs ds[k].name):=rfl;rw[q8.out]at e0;generalize ds[k]=d at*;have j7:=E.lits;have HX:=Ao (fun j=>II (CV (ds.take k)) (d.ai.take j) (f,false));have M:=Ao (II (CV (ds.take k)) d.ai (f,false));have C:=Ao (fun j=>q6.out (CV (ds.take k)++d.ai.take j) (H.out j));simp only[HX.out]at C;rw[<-j0.out]at M;generalize BR (CV (ds.take k)) (f,false)=X at*;rw[<-y.cell (p:=⟨gc,k*6,none⟩) o]at e0;rw[<-y.cell (p:=⟨gc,k*6+1,none⟩) o]at e1;rw[<-y.cell (p:=⟨gc,k*6+2,none⟩) o]at e2;rw[<-y.cell (p:=⟨gc,k*6+3,none⟩) o]at e3;rw[<-y.cell (p:=⟨gc,k*6+4,none⟩) o]at e4;rw[<-y.cell (p:=⟨gc,k*6+5,none⟩) o]at e5;have j5:=y.size;have q9:=Ao (Mi U d.name s.out.1);have HH:=Ao (Ov U d.name s.out.1);have m:=(hC.below y).alloc (.cells #[Value.string (bs d.name),.int .i64 d.cn,.string (d.t 0),.string (d.t 1),.string (d.t 2),.slice bo d.lits.length bcap] 86);have n:=(hS.below y).alloc (.cells #[Value.string (bs d.name),.int .i64 d.cn,.string (d.t 0),.string (d.t 1),.string (d.t 2),.slice bo d.lits.length bcap] 86);have v:=a.alloc (.cells #[Value.string (bs d.name),.int .i64 d.cn,.string (d.t 0),.string (d.t 1),.string (d.t 2),.slice bo d.lits.length bcap] 86);have c:=y.alloc j5 (.cells #[Value.string (bs d.name),.int .i64 d.cn,.string (d.t 0),.string (d.t 1),.string (d.t 2),.slice bo d.lits.length bcap] 86);go_wp2_with (go_at_call 75;refine(J8 _ sbase sb mv lv [] 178 U d.name m n (by unfold maxLen;omega)).mono ?_;rintro e w2 ⟨he,j9⟩;subst w2;rw[q9.out,HH.out]at he;subst he);clear e0 e1 e2 e3 e4 e5 m n a y
   go_loopw [7,32] (fun gv jv wr=>∃(j:Nat),j<=d.lits.length/\jv=.int .i64 j/\gv=.bool (BR (d.ai.take j) X).2/\Aw wr g (Gb U (BR (d.ai.take j) X).1) 3/\Below w0.heap.size w0 wr) (fun _ jv _=>d.lits.length-(intOf jv).toNat)
   case atStart=>exact⟨0,by omega,rfl,rfl,v,c⟩
   case round=>
    clear v c;obtain⟨j,hj,rfl,rfl,a,y⟩:=hrel;by_cases x:j<d.lits.length
    ·obtain⟨N,rfl,i,a0,a1,a2,a3,a4,a5⟩:=Jq G j x;have u:=Ao (VB d j x X);have B:=j2.out d.lits[j] (Aj x);have V:=Ao (s.out.2 d.lits[j] (Aj x));have q7:Hid (d.lits[j].nm=bs d.lits[j].name):=rfl;rw[q7.out]at a0;generalize d.lits[j]=l at*;rw[<-y.cell (p:=⟨N,j*6,none⟩) i]at a0;rw[<-y.cell (p:=⟨N,j*6+1,none⟩) i]at a1;rw[<-y.cell (p:=⟨N,j*6+2,none⟩) i]at a2;rw[<-y.cell (p:=⟨N,j*6+3,none⟩) i]at a3;rw[<-y.cell (p:=⟨N,j*6+4,none⟩) i]at a4;rw[<-y.cell (p:=⟨N,j*6+5,none⟩) i]at a5;have P:=y.size;have j6:N<wr.heap.size:=by omega
     have q2:=Ay (C.out j d.name) (I.out d.name);have q3:=Ay (C.out j l.name) (I.out l.name);generalize BR (d.ai.take j) X=Y at*;obtain⟨z,h⟩:=Y;simp only[]at a u q2 q3⊢;have HQ:=Ao (Kq U z d.name s.out.1);have j8:=B9 s.out.1;cases R:l.neg
     ·rw[R]at a5;simp only[R,An,AM,Nat.add_zero]at u;have m:=(hC.below y).alloc (.cells #[Value.string (bs l.name),.int .i64 l.cn,.string (l.t 0),.string (l.t 1),.string (l.t 2),.bool false] 186);have n:=(hS.below y).alloc (.cells #[Value.string (bs l.name),.int .i64 l.cn,.string (l.t 0),.string (l.t 1),.string (l.t 2),.bool false] 186);have v:=a.alloc (.cells #[Value.string (bs l.name),.int .i64 l.cn,.string (l.t 0),.string (l.t 1),.string (l.t 2),.bool false] 186);have c:=y.alloc P (.cells #[Value.string (bs l.name),.int .i64 l.cn,.string (l.t 0),.string (l.t 1),.string (l.t 2),.bool false] 186);by_cases r:z d.name<z l.name
      ·have J:=Ao (show BR (d.ai.take (j+1)) X=((fun p=>if p=d.name then z l.name else z p),true) by
           rw[u.out,P4 _ _ (show z d.name<z l.name+Dw.w ⟨d.name,l.name,false⟩ from r),Bq r,Bool.or_true]
           rfl)
       have S:((z d.name:Nat):Int)<((z l.name:Nat):Int):=by omega
       clear u;go_wp2_with (go_at_call 108;refine(Hj _ sbase sb mv lv U m n g z v l.name V.out B (by omega) false l.cn (l.t 0) (l.t 1) (l.t 2)).mono ?_;rintro e w2 ⟨rfl,b⟩;have q:=v.below b;have fG:=q.frozen;have K:=q.lt;have O:=q.cell (U.idxOf d.name);rw[HQ.out]at O);have Z:=q.setCell (U.idxOf d.name) (.int .i64 ((z l.name:Nat):Int));rw[<-SP U W.out z d.name s.out.1 (z l.name)]at Z;exact⟨⟨j+1,x,by go_num,by rw[J.out],by rw[J.out];exact Z,(c.trans (b.mono (by simp;omega))).setCell (p:=⟨g,U.idxOf d.name,none⟩) hg _⟩,by simp[intOf];omega⟩
      ·have J:=Ao (show BR (d.ai.take (j+1)) X=(z,h) by
           rw[u.out,It _ _ (show ¬z d.name<z l.name+Dw.w ⟨d.name,l.name,false⟩ from r),A5 r,MO])
       have S:¬((z d.name:Nat):Int)<((z l.name:Nat):Int):=by omega
       clear u;go_wp2_with (go_at_call 108;refine(Hj _ sbase sb mv lv U m n g z v l.name V.out B (by omega) false l.cn (l.t 0) (l.t 1) (l.t 2)).mono ?_;rintro e w2 ⟨rfl,b⟩;have q:=v.below b;have fG:=q.frozen;have K:=q.lt;have O:=q.cell (U.idxOf d.name);rw[HQ.out]at O);exact⟨⟨j+1,x,by go_num,by rw[J.out],by rw[J.out];exact q,c.trans (b.mono (by simp;omega))⟩,by simp[intOf];omega⟩
     ·rw[R]at a5;simp only[R,Bk]at u;have m:=(hC.below y).alloc (.cells #[Value.string (bs l.name),.int .i64 l.cn,.string (l.t 0),.string (l.t 1),.string (l.t 2),.bool true] 186);have n:=(hS.below y).alloc (.cells #[Value.string (bs l.name),.int .i64 l.cn,.string (l.t 0),.string (l.t 1),.string (l.t 2),.bool true] 186);have v:=a.alloc (.cells #[Value.string (bs l.name),.int .i64 l.cn,.string (l.t 0),.string (l.t 1),.string (l.t 2),.bool true] 186);have c:=y.alloc P (.cells #[Value.string (bs l.name),.int .i64 l.cn,.string (l.t 0),.string (l.t 1),.string (l.t 2),.bool true] 186);by_cases r:z d.name<z l.name+1
      ·have J:=Ao (show BR (d.ai.take (j+1)) X=((fun p=>if p=d.name then z l.name+1 else z p),true) by
           rw[u.out,P4 _ _ (show z d.name<z l.name+Dw.w ⟨d.name,l.name,true⟩ from r),Bq r,Bool.or_true]
           rfl)
       have S:((z d.name:Nat):Int)<((z l.name+1:Nat):Int):=by omega
       clear u;go_wp2_with (go_at_call 108;refine(Hj _ sbase sb mv lv U m n g z v l.name V.out B (by omega) true l.cn (l.t 0) (l.t 1) (l.t 2)).mono ?_;rintro e w2 ⟨rfl,b⟩;have q:=v.below b;have fG:=q.frozen;have K:=q.lt;have O:=q.cell (U.idxOf d.name);rw[HQ.out]at O);have Z:=q.setCell (U.idxOf d.name) (.int .i64 ((z l.name+1:Nat):Int));rw[<-SP U W.out z d.name s.out.1 (z l.name+1)]at Z;exact⟨⟨j+1,x,by go_num,by rw[J.out],by rw[J.out];exact Z,(c.trans (b.mono (by simp;omega))).setCell (p:=⟨g,U.idxOf d.name,none⟩) hg _⟩,by simp[intOf];omega⟩
      ·have J:=Ao (show BR (d.ai.take (j+1)) X=(z,h) by
           rw[u.out,It _ _ (show ¬z d.name<z l.name+Dw.w ⟨d.name,l.name,true⟩ from r),A5 r,MO])
       have S:¬((z d.name:Nat):Int)<((z l.name+1:Nat):Int):=by omega
       clear u;go_wp2_with (go_at_call 108;refine(Hj _ sbase sb mv lv U m n g z v l.name V.out B (by omega) true l.cn (l.t 0) (l.t 1) (l.t 2)).mono ?_;rintro e w2 ⟨rfl,b⟩;have q:=v.below b;have fG:=q.frozen;have K:=q.lt;have O:=q.cell (U.idxOf d.name);rw[HQ.out]at O);exact⟨⟨j+1,x,by go_num,by rw[J.out],by rw[J.out];exact q,c.trans (b.mono (by simp;omega))⟩,by simp[intOf];omega⟩
    ·have q4:j=d.lits.length:=by omega
     have HE:=Ao (show BR (d.ai.take j) X=BR d.ai X by
      rw[q4,show d.lits.length=d.ai.length by simp[Bd.ai],AL])
     clear q4;go_wp2_with fail;rw[HE.out,<-M.out]at a;exact⟨⟨k+1,Q,by go_num,by rw[HE.out,<-M.out],a,y⟩,by simp[intOf];omega⟩
  ·have q5:k=ds.length:=by omega
   have HE:=Ao (show ds.take k=ds by rw[q5,AL]);clear q5;go_wp2_with fail
   go_ret
   rw[HE.out]at a⊢;exact⟨rfl,a,y⟩
theorem Zu(w:World)(base rb:Nat)(v:Value)(l:List RC)(n:Aw w rb [v] 76)(p:Ck w base v l)(hn:l.length<=40)(hb:∀c∈l,c.body.length<=4)(nm:B8):
 Calls prog 21 #[.pointer (some ⟨rb,0,none⟩),.string (bs nm)] w fun e w'=>e=.returned (.int .i64 (PC l nm))/\Below w.heap.size w w':=by
 obtain⟨ao,cap,rfl⟩:∃ao cap,v=.slice ao l.length cap:=by obtain⟨rows,o,_,_⟩:=p;exact Au o
 have v0:w.cell? ⟨rb,0,none⟩=some (.slice ao l.length cap):=n.cell 0;have q2:=n.lt;have z:Hid (PC l nm=if nm∈CZ (A2 l) then((D9 (BJ l) (CZ (A2 l)).length nm:Nat):Int) else-1):=rfl;have y:=Ao (WA w base ao cap l p hn hb);have q1:=Ao (I0 l);have hUn:(CZ (A2 l)).length<=200:=by have h1:=K2 (A2 l);have h2:=GA l hb;omega
 have b:=Ao (fun W sb so Q=>Tn W base rb (.slice ao l.length cap) l (hn:=hn) (hb:=hb) (sbase:=sb) (so:=so) (scap:=Q) (U:=CZ (A2 l)) (hUn:=hUn) (hin:=I0 l));generalize CZ (A2 l)=U at*;by_cases j:nm∈U
 ·have u:=Ao (show PC l nm=((D9 (BJ l) U.length nm:Nat):Int) by rw[z.out,Ai j]);have d:=Ao (show Gf U nm=((U.idxOf nm:Nat):Int) by unfold Gf;rw[Ai j]);have q3:=B9 j;have t:=Ao (Kq U (D9 (BJ l) U.length) nm j);generalize U.idxOf nm=pos at*;go_enter func21,ntmps21;go_wp2_with (first|(go_at_call 46;refine(y.out).mono ?_;rintro e w1 ⟨J,rfl,hU,q⟩;obtain⟨so,scap,rfl⟩:=Au hU;have x:=n.below q;have m:=p.below q;have s:=q.size)|(go_at_call 47;refine(Iy _ w.heap.size so scap U (by exact hU) (by omega) nm).mono ?_;rintro e w2 ⟨k,f⟩;subst w2;rw[d.out]at k;subst k)|(go_at_call 48;refine(b.out _ w.heap.size so scap x m hU).mono ?_;rintro e w3 ⟨g,rfl,a,r⟩;have i:=a.cell pos;rw[t.out]at i))
  go_ret
  rw[u.out];exact⟨rfl,q.trans (r.mono s)⟩
 ·have u:=Ao (show PC l nm= -1 by rw[z.out,Af j]);have d:=Ao (show Gf U nm= -1 by unfold Gf;rw[Af j]);go_enter func21,ntmps21;go_wp2_with (first|(go_at_call 46;refine(y.out).mono ?_;rintro e w1 ⟨J,rfl,hU,q⟩;obtain⟨so,scap,rfl⟩:=Au hU)|(go_at_call 47;refine(Iy _ w.heap.size so scap U (by exact hU) (by omega) nm).mono ?_;rintro e w2 ⟨k,f⟩;subst w2;rw[d.out]at k;subst k))
  go_ret
  rw[u.out];exact⟨rfl,q⟩
end
end Go.Proofs.YtpbfiffgcgnidaaGreatDoor
