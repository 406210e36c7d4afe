import Derived.Test.YtpbfiffgcgnidaaGreatDoorYal
import Derived.Deep.OwnRows
import Derived.Laws.OwnMore
import Derived.Test.YtpbfiffgcgnidaaGreatDoorY13
namespace Go.Proofs.YtpbfiffgcgnidaaGreatDoor
set_option maxRecDepth 100000
set_option maxHeartbeats 4000000
set_option linter.unusedSimpArgs false
open Go.Proofs.Tryz
section
structure Dw where
 h:B8
 b:B8
 n:Bool
def Dw.w(e:Dw):Nat:=if e.n then 1 else 0
def Db(f:B8->Nat)(p:B8):Nat->List Dw->Nat
 |m,[]=>m
 |m,e::es=>Db f p (if e.h=p/\m<f e.b+e.w then f e.b+e.w else m) es
def Og(E:List Dw)(f:B8->Nat)(p:B8):Nat:=Db f p 0 E
def D9(E:List Dw):Nat->B8->Nat
 |0=>fun _=>0
 |k+1=>Og E (D9 E k)
theorem aA(f:B8->Nat)(p:B8)(m:Nat)(E:List Dw):m<=Db f p m E:=by
 induction E generalizing m with
 |nil=>exact Ab _
 |cons e es q=>
  rw[Db];refine Ay ?_ (q _)
  split<;>omega
theorem Js(f:B8->Nat)(p:B8)(m:Nat)(E:List Dw)(e:Dw)(q:e∈E)(z:e.h=p):f e.b+e.w<=Db f p m E:=by
 induction E generalizing m with
 |nil=>simp at q
 |cons x es y=>
  rw[Db];rcases List.mem_cons.1 q with rfl|h
  ·refine Ay ?_ (aA _ _ _ _);by_cases j:m<f e.b+e.w
   ·rw[Ai ⟨z,j⟩];exact Ab _
   ·rw[Af (fun h=>j h.2)];omega
  ·exact y _ h
theorem H8(f:B8->Nat)(p:B8)(m:Nat)(E:List Dw):Db f p m E=m\/∃e∈E,e.h=p/\Db f p m E=f e.b+e.w:=by
 induction E generalizing m with
 |nil=>exact .inl rfl
 |cons x es j=>
  rw[Db];by_cases hx:x.h=p/\m<f x.b+x.w
  ·rw[Ai hx];rcases j (f x.b+x.w) with h|⟨e,q,h1,h2⟩
   ·exact .inr ⟨x,by simp,hx.1,h⟩
   ·exact .inr ⟨e,by simp[q],h1,h2⟩
  ·rw[Af hx];rcases j m with h|⟨e,q,h1,h2⟩
   ·exact .inl h
   ·exact .inr ⟨e,by simp[q],h1,h2⟩
theorem Z9(E:List Dw)(f g:B8->Nat)(h:∀p,f p<=g p)(p:B8):Og E f p<=Og E g p:=by
 rcases H8 f p 0 E with h1|⟨e,q,h1,h2⟩
 ·unfold Og;rw[h1];exact Cq _
 ·have:=Js g p 0 E e q h1;have:=h e.b;unfold Og;omega
theorem WD(E:List Dw)(k:Nat):∀p,D9 E k p<=D9 E (k+1) p:=by
 induction k with
 |zero=>intro p;exact Cq _
 |succ k q=>intro p;exact Z9 E _ _ q p
theorem XZ(E:List Dw){j k:Nat}(h:j<=k)(p:B8):D9 E j p<=D9 E k p:=by
 induction k with
 |zero=>have:j=0:=by omega
        subst this;exact Ab _
 |succ k z=>
  by_cases q:j=k+1
  ·subst q;exact Ab _
  ·exact Ay (z (by omega)) (WD E k p)
def mX(E:List Dw):Nat->B8->B8->Nat->Prop
 |0,p,q,n=>p=q/\n=0
 |k+1,p,q,n=>∃e∈E,∃m,e.h=p/\n=m+e.w/\mX E k e.b q m
def M9(E:List Dw)(p q:B8)(n:Nat):Prop:=∃k,mX E k p q n
theorem M9.nil{E:List Dw}(p:B8):M9 E p p 0:=⟨0,rfl,rfl⟩
theorem M9.cons{E:List Dw}(e:Dw)(j:e∈E)(q:B8)(n:Nat)(h:M9 E e.b q n):M9 E e.h q (n+e.w):=by obtain⟨k,z⟩:=h;exact⟨k+1,e,j,n,rfl,rfl,z⟩
theorem M9.trans{E:List Dw}{p q r:B8}{n m:Nat}(h:M9 E p q n)(z:M9 E q r m):M9 E p r (m+n):=by
 obtain⟨k,j⟩:=h
 induction k generalizing p n with
 |zero=>obtain⟨rfl,rfl⟩:=j;exact z
 |succ k v=>
  obtain⟨e,y,x,rfl,rfl,hx⟩:=j;have h2:=M9.cons e y _ _ (v hx)
  rwa [Nat.add_assoc]at h2
theorem mS(E:List Dw)(m:∀p n,M9 E p p n->n=0)(U:List B8)(hU:∀e∈E,e.h∈U)(k:Nat):∀p,D9 E k p<D9 E (k+1) p->
 ∃l:List B8,l.length=k+1/\l.Nodup/\(∀q∈l,q∈U)/\∀q∈l,∃j n,j<=k/\M9 E p q n/\D9 E (k+1) p=n+D9 E (j+1) q:=by
 induction k with
 |zero=>
  intro p c;rcases H8 (D9 E 0) p 0 E with h1|⟨e,v,h1,h2⟩
  ·exfalso;have:D9 E (0+1) p=0:=h1;omega
  ·refine⟨[p],rfl,by simp,?_,?_⟩
   ·intro q hq;simp at hq;subst hq;exact h1▸hU e v
   ·intro q hq;simp at hq;subst hq;exact⟨0,0,Ab _,M9.nil _,(B7 _).symm⟩
 |succ k x=>
  intro p c;rcases H8 (D9 E (k+1)) p 0 E with h1|⟨e,v,h1,h2⟩
  ·exfalso;have:D9 E (k+1+1) p=0:=h1;omega
  ·have h3:D9 E (k+1+1) p=D9 E (k+1) e.b+e.w:=h2;have h4:D9 E k e.b+e.w<=D9 E (k+1) p:=Js (D9 E k) p 0 E e v h1;obtain⟨l,r,u,hin,d⟩:=x e.b (by omega);refine⟨p::l,by simp[r],?_,?_,?_⟩
   ·rw[List.nodup_cons];refine⟨fun g=>?_,u⟩;obtain⟨j,n,t,z,hn⟩:=d p g
    have y:M9 E p p (n+e.w):=by
     have:=M9.cons e v _ _ z
     rwa [h1]at this
    have h0:=m p _ y;have h5:=XZ E (show j+1<=k+1 by omega) p;omega
   ·intro q hq;rcases List.mem_cons.1 hq with rfl|hq
    ·exact h1▸hU e v
    ·exact hin q hq
   ·intro q hq;rcases List.mem_cons.1 hq with rfl|hq
    ·exact⟨k+1,0,Ab _,M9.nil _,(B7 _).symm⟩
    ·obtain⟨j,n,t,z,hn⟩:=d q hq;refine⟨j,n+e.w,by omega,?_,?_⟩
     ·have:=M9.cons e v _ _ z
      rwa [h1]at this
     ·omega
theorem Qk(E:List Dw)(j:∀p n,M9 E p p n->n=0)(U:List B8)(hU:∀e∈E,e.h∈U)(p:B8):Og E (D9 E U.length) p=D9 E U.length p:=by apply Bj;intro q0;have h1:=WD E U.length p;have h2:D9 E (U.length+1) p=Og E (D9 E U.length) p:=rfl;obtain⟨l,hl,q,hin,_⟩:=mS E j U hU U.length p (by omega);have:=q.length_le_of_subset hin;omega
def FI(e:Dw)(f:B8->Nat):B8->Nat:=fun p=>if p=e.h/\f e.h<f e.b+e.w then f e.b+e.w else f p
theorem XB(E:List Dw)(L:B8->Nat)(j:∀p,Og E L p=L p)(e:Dw)(z:e∈E)(f:B8->Nat)(q:∀p,f p<=L p):∀p,FI e f p<=L p:=by
 intro p;unfold FI
 split
 ·rename_i h;have h1:=Js L e.h 0 E e z rfl;have h2:=j e.h;have h3:=q e.b;unfold Og at h2;rw[h.1];omega
 ·exact q p
theorem Zk(E:List Dw)(f:B8->Nat)(k:Nat)(hs:∀e∈E,f e.b+e.w<=f e.h):∀p,D9 E k p<=f p:=by
 induction k with
 |zero=>intro p;exact Cq _
 |succ k j=>
  intro p;refine Ay (Z9 E _ _ j p) ?_;rcases H8 f p 0 E with h1|⟨e,q,h1,h2⟩
  ·unfold Og;rw[h1];exact Cq _
  ·unfold Og;rw[h2,<-h1];exact hs e q
def RC.ai(c:RC):List Dw:=c.body.map fun a=>⟨c.head.name,a.name,a.neg⟩
def BJ(cs:List RC):List Dw:=cs.flatMap RC.ai
theorem Ks{cs:List RC}{e:Dw}:e∈BJ cs↔ ∃c∈cs,∃a∈c.body,e=⟨c.head.name,a.name,a.neg⟩:=by
 unfold BJ RC.ai;rw[C5];constructor
 ·rintro⟨c,hc,h⟩;obtain⟨a,q,rfl⟩:=List.mem_map.1 h;exact⟨c,hc,a,q,rfl⟩
 ·rintro⟨c,hc,a,q,rfl⟩;exact⟨c,hc,List.mem_map.2 ⟨a,q,rfl⟩⟩
theorem LD(f:B8->Nat)(p:B8)(m:Nat)(A B:List Dw):Db f p m (A++B)=Db f p (Db f p m A) B:=by
 induction A generalizing m with
 |nil=>rfl
 |cons e r q=>rw[List.cons_append,Db,Db,q]
theorem Tw(f:B8->Nat)(p:B8)(m:Nat)(A:List Dw)(h:∀e∈A,e.h≠p):Db f p m A=m:=by
 induction A generalizing m with
 |nil=>rfl
 |cons e r q=>rw[Db,Af (fun x=>h e (by simp) x.1)];exact q m (fun x hx=>h x (by simp[hx]))
theorem Rs(f:B8->Nat)(p:B8)(l:List RC)(i:Nat)(q:i<l.length):Db f p 0 (BJ (l.take (i+1)))=Db f p (Db f p 0 (BJ (l.take i))) l[i].ai:=by rw[<-LD];congr 1;unfold BJ;rw[Ad q,BG,Ca]
theorem X0(f:B8->Nat)(p:B8)(m:Nat)(c:RC)(k:Nat)(j:k<c.body.length)(hc:c.head.name=p):Db f p m (c.ai.take (k+1))=(if Db f p m (c.ai.take k)<f c.body[k].name+(if c.body[k].neg then 1 else 0) then f c.body[k].name+(if c.body[k].neg then 1 else 0) else Db f p m (c.ai.take k)):=by
 have z:k<c.ai.length:=by simpa[RC.ai]using j
 rw[Ad z,LD];have q:c.ai[k]=⟨c.head.name,c.body[k].name,c.body[k].neg⟩:=by simp[RC.ai]
 rw[q,Db,Db];simp only[hc,Dw.w,lT]
theorem J3(f:B8->Nat)(p:B8)(m B:Nat)(A:List Dw)(hm:m<=B+1)(j:∀q,f q<=B):Db f p m A<=B+1:=by
 rcases H8 f p m A with h|⟨e,_,_,h⟩
 ·omega
 ·have:=j e.b;have:e.w<=1:=by unfold Dw.w;split<;>omega
  omega
theorem K3(E:List Dw)(k:Nat):∀p,D9 E k p<=k:=by
 induction k with
 |zero=>intro p;exact Ab _
 |succ k q=>intro p;exact J3 _ _ _ _ _ (by omega) q
end
section
attribute [local go_sem] AE As
open Go.RowKit Go.WideMaps Go.Maps
theorem TA:(prog.info? 3).map (fun i=>(i.zero,i.size,i.bytes))=some (some (.int .i64 0),1,8):=by kernel_rfl
theorem Qe(n:Nat)(hn:n<=100000)(W:World):(Instr.makeSlice 97 (.int .i64 (n:Int)) (.int .i64 (n:Int))).run prog W=.ok (.slice (some ⟨W.heap.size,0,none⟩) n n) (W.alloc (.cells (List.replicate n (.int .i64 0)).toArray 3)):=by rw[Go.run_make_row' 97 3 (.int .i64 0) 8 underlying97 TA rfl .i64 .i64 n (by omega) (by omega) W];congr 3;rw[<-Go.toList_madeCells_one]
def Gb(U:List B8)(f:B8->Nat):List Value:=U.map fun x=>.int .i64 (f x:Nat)
theorem Mg(U:List B8):Gb U (fun _=>0)=List.replicate U.length (.int .i64 0):=by unfold Gb;rw[List.map_const'];rfl
theorem Kq(U:List B8)(f:B8->Nat)(k:B8)(q:k∈U):(Gb U f)[U.idxOf k]? =some (.int .i64 (f k:Nat)):=by unfold Gb;rw[Ba,Ar (B9 q),List.getElem_idxOf];rfl
def K0(U:List B8)(f:B8->Nat)(j:Nat):List Value:=Gb (U.take j) f++List.replicate (U.length-j) (.int .i64 0)
theorem Zt(U:List B8)(f:B8->Nat)(j:Nat)(hj:j<=U.length):(K0 U f j).length=U.length:=by unfold K0 Gb;simp;omega
theorem eJ(U:List B8)(f:B8->Nat)(j:Nat)(hj:j<U.length):(K0 U f j)[j]? =some (.int .i64 (0:Nat)):=by unfold K0 Gb;rw[A0 (by simp;omega),List.getElem?_replicate,AK,Dz,Ai (by omega)];rfl
theorem Xx(U:List B8)(f:B8->Nat)(j:Nat)(q:j<U.length):(K0 U f j).set j (.int .i64 (f U[j]:Nat))=K0 U f (j+1):=by
 unfold K0 Gb;have z:((U.take j).map fun x=>Value.int .i64 (f x:Nat)).length=j:=by simp;omega
 rw[List.set_append_right _ _ (by omega),z,Nat.sub_self];rw[show U.length-j=(U.length-(j+1))+1 by omega,List.replicate_succ,List.set_cons_zero,Ad q,A8,Bm];rfl
theorem Xz(U:List B8)(f:B8->Nat):K0 U f U.length=Gb U f:=by unfold K0;rw[AL,Nat.sub_self];simp
theorem N5(w:World)(U:List B8):Aw (w.alloc (.cells (Array.replicate U.length (.int .i64 0)) 3)) w.heap.size (Gb U (fun _=>0)) 3:=by have h:=Aw.new w (Gb U (fun _=>0)) 3;rw[Mg,List.toArray_replicate]at h;rw[Mg];exact h
theorem Xw(U:List B8)(f:B8->Nat):K0 U f 0=Gb U (fun _=>0):=by rw[Mg];unfold K0 Gb;simp
theorem Xy(U:List B8)(f:B8->Nat)(j:Nat)(z:j<U.length):(K0 U f j).set j (.int .i64 ((0:Nat):Int))=K0 U f j:=by have h:=eJ U f j z;obtain⟨hl,q⟩:=List.getElem?_eq_some_iff.1 h;rw[<-q,Dh]
def WU(l:List RC)(U:List B8):Prop:=∀c∈l,c.head.name∈U/\∀a∈c.body,a.name∈U
theorem Tn(w:World)(base rb:Nat)(v:Value)(l:List RC)(hV:Aw w rb [v] 76)(hL:Ck w base v l)(hn:l.length<=40)(hb:∀c∈l,c.body.length<=4)(sbase:Nat)(so:Option Addr)(scap:Nat)(U:List B8)(hU:w.ownsRow sbase 9 1 (.slice so U.length scap) U.length (U.map fun x=>.string (bs x)))(hUn:U.length<=200)(hin:WU l U):
 Calls prog 48 #[.pointer (some ⟨rb,0,none⟩),.slice so U.length scap] w fun e w'=>∃g,e=.returned (.slice (some ⟨g,0,none⟩) U.length U.length)/\Aw w' g (Gb U (D9 (BJ l) U.length)) 3/\Below w.heap.size w w':=by
 have j9:=Ao hin;have j6:=Ao hb;obtain⟨ao,cap,rfl⟩:∃ao cap,v=.slice ao l.length cap:=by obtain⟨rows,ho,_,_⟩:=hL;exact Au ho
 have y1:=Qe U.length (by omega);clear hin hb;go_enter func48,ntmps48;go_wp2_with fail
 go_loopw [5,6] (fun wv sv wr=>∃(t g:Nat),t<=U.length/\sv=.int .i64 t/\wv=.slice (some ⟨g,0,none⟩) U.length U.length/\w.heap.size<=g/\Aw wr g (Gb U (D9 (BJ l) t)) 3/\Below w.heap.size w wr) (fun _ sv _=>U.length-(intOf sv).toNat)
 case atStart=>exact⟨0,w.heap.size,by omega,rfl,rfl,Ab _,N5 w U,Ac _ _⟩
 case round=>
  obtain⟨t,h,ht,rfl,rfl,k1,hK,hB⟩:=hrel;by_cases z9:t<U.length
  ·have HF:=Ao (K3 (BJ l) t);have z4:Hid (D9 (BJ l) (t+1)=Og (BJ l) (D9 (BJ l) t)):=rfl;generalize D9 (BJ l) t=f at*;have y3:=hK.lt;have q4:=hK.alloc (.cells (Array.replicate U.length (.int .i64 0)) 3);have O:=N5 wr U;rw[<-Xw U (Og (BJ l) f)]at O;have q3:=hB.alloc hB.size (.cells (Array.replicate U.length (.int .i64 0)) 3);have L:=hB.size;go_wp2_with fail;generalize q9:wr.heap.size=g2 at*;clear y1;have y7:=Ao q9;clear q9
   go_loopw [8] (fun pv Q=>∃(j:Nat),j<=U.length/\pv=.int .i64 j/\Aw Q h (Gb U f) 3/\Aw Q g2 (K0 U (Og (BJ l) f) j) 3/\Below w.heap.size w Q) (fun pv _=>U.length-(intOf pv).toNat)
   case atStart=>exact⟨0,by omega,rfl,q4,O,q3⟩
   case round=>
    clear q4 O q3 hK;obtain⟨j,hj,rfl,q5,hM,A⟩:=hrel;by_cases o:j<U.length
    ·have z5:=Ao (Xy U (Og (BJ l) f) j o);have z7:=Ao (Xx U (Og (BJ l) f) j o);have z2:=Ao (Zt U (Og (BJ l) f) j (by omega));have z0:Hid (Og (BJ l) f U[j]=Db f U[j] 0 (BJ l)):=rfl;obtain⟨Z,rfl,j0⟩:=DO hU j o;have M:Z<w.heap.size:=(hU.lt Z rfl).2;have u0:w.cell? ⟨Z,j,none⟩=some (.string (bs U[j])):=by rw[j0];simp[o]
     clear j0;generalize U[j]=p at*;rw[<-z5.out]at hM;generalize K0 U (Og (BJ l) f) j=R at*;go_wp2_with fail
     go_loopw [9] (fun iv Q=>∃(i:Nat),i<=l.length/\iv=.int .i64 i/\Aw Q h (Gb U f) 3/\Aw Q g2 (R.set j (.int .i64 (Db f p 0 (BJ (l.take i)):Nat))) 3/\Below w.heap.size w Q) (fun iv _=>l.length-(intOf iv).toNat)
     case atStart=>exact⟨0,by omega,rfl,q5,hM,A⟩
     case round=>
      clear hM q5 A;obtain⟨i,hi,rfl,Y,s,y⟩:=hrel;have v0:wr.cell? ⟨rb,0,none⟩=some (.slice ao l.length cap):=by rw[y.cell (p:=⟨rb,0,none⟩) hV.lt];exact hV.cell 0
      have j4:rb<wr.heap.size:=by have:=hV.lt;have:=y.size;omega
      by_cases d:i<l.length
      ·obtain⟨gc,tv,bo,bcap,rfl,P,b0,b1,b2,b3,b4,b5,hT,hR⟩:=DZ hL rfl i d;have X:=Ao (Rs f p l i d);have y8:=j6.out l[i] (Aj d);have z3:=Ao (j9.out l[i] (Aj d));have HW:Hid (l[i].head.w=bs l[i].head.name):=rfl;rw[HW.out]at b0;generalize l[i]=c at*;have y0:=J3 f p 0 t (BJ (l.take i)) (by omega) HF.out;generalize Db f p 0 (BJ (l.take i))=m0 at*;by_cases hc:c.head.name=p
       ·have hq:((bs c.head.name).toList==(bs p).toList)=true:=by rw[D4];simpa using hc
        have q0:=Ao (fun k hk=>X0 f p m0 c k hk hc);have j7:=Ao (fun k=>J3 f p m0 t (c.ai.take k) y0 HF.out)
        have j8:=Ao (show c.ai.take c.body.length=c.ai by
           rw[show c.body.length=c.ai.length by simp[RC.ai]]
           exact AL)
        have q6:Aw wr g2 (R.set j (.int .i64 (Db f p m0 (c.ai.take 0):Nat))) 3:=s;clear s b1 b2 b3 b4;go_wp2_with fail
        go_loopw [10] (fun kv Q=>∃(k:Nat),k<=c.body.length/\kv=.int .i64 k/\Aw Q h (Gb U f) 3/\Aw Q g2 (R.set j (.int .i64 (Db f p m0 (c.ai.take k):Nat))) 3/\Below w.heap.size w Q) (fun kv _=>c.body.length-(intOf kv).toNat)
        case atStart=>exact⟨0,by omega,rfl,Y,q6,y⟩
        case round=>
           clear q6 Y y v0 j4;obtain⟨k,hk,rfl,b,u,q⟩:=hrel;have v0:wr.cell? ⟨rb,0,none⟩=some (.slice (some ⟨gc,0,none⟩) l.length cap):=by rw[q.cell (p:=⟨rb,0,none⟩) hV.lt];exact hV.cell 0
           have j4:rb<wr.heap.size:=by have:=hV.lt;have:=q.size;omega
           have y5:=b.lt;have y6:=u.lt;have c0:wr.cell? ⟨gc,i*6,none⟩=some (.string (bs c.head.name)):=by rw[q.cell (p:=⟨gc,i*6,none⟩) P];exact b0
           have c5:wr.cell? ⟨gc,i*6+5,none⟩=some (.slice bo c.body.length bcap):=by rw[q.cell (p:=⟨gc,i*6+5,none⟩) P];exact b5
           have u1:wr.cell? ⟨Z,j,none⟩=some (.string (bs p)):=by rw[q.cell (p:=⟨Z,j,none⟩) M];exact u0
           by_cases r:k<c.body.length
           ·obtain⟨J,ta,rfl,K,a0,a1,a2,a3,a4,q7⟩:=H4 hR rfl k r;have d0:wr.cell? ⟨J,k*5,none⟩=some (.string c.body[k].w):=by rw[q.cell (p:=⟨J,k*5,none⟩) K];exact a0
            have d1:wr.cell? ⟨J,k*5+1,none⟩=some ta:=by rw[q.cell (p:=⟨J,k*5+1,none⟩) K];exact a1
            have d2:wr.cell? ⟨J,k*5+2,none⟩=some (.int .i64 (c.body[k].pl:Nat)):=by rw[q.cell (p:=⟨J,k*5+2,none⟩) K];exact a2
            have d3:wr.cell? ⟨J,k*5+3,none⟩=some (.int .i64 (c.body[k].af:Nat)):=by rw[q.cell (p:=⟨J,k*5+3,none⟩) K];exact a3
            have d4:wr.cell? ⟨J,k*5+4,none⟩=some (.bool c.body[k].neg):=by rw[q.cell (p:=⟨J,k*5+4,none⟩) K];exact a4
            obtain⟨tq,N,rfl⟩:=Au q7;have S:=Ao (z3.out.2 c.body[k] (Aj r));have z:=Ao (q0.out k r);have z8:Hid (c.body[k].w=bs c.body[k].name):=rfl;rw[z8.out]at d0;clear a0 a1 a2 a3 a4 q7 q0;have z1:=Ao (show j<R.length by rw[z2.out];exact o);have y4:J<wr.heap.size:=by have:=q.size;omega
            have B:=Ah hU (q.mono (Ab _));generalize c.body[k]=x at*;have k2:=j7.out k;generalize Db f p m0 (c.ai.take k)=m at*;have k0:=HF.out x.name;have q1:=b.cell (U.idxOf x.name);rw[Kq U f x.name S.out]at q1;have q2:=u.cell j;rw[CD z1.out]at q2;have k3:=B9 S.out;have G:=Ao (show Gf U x.name=((U.idxOf x.name:Nat):Int) by unfold Gf;rw[Ai S.out]);generalize U.idxOf x.name=pos at*;generalize f x.name=V at*;have fM:=u.frozen;cases C:x.neg
            ·rw[C]at d4;simp only[C,An,AM,Nat.add_zero]at z;by_cases y2:m<V
             ·have E:=Ao (show Db f p m0 (c.ai.take (k+1))=V by rw[z.out,Ai (by omega)]);have I:((m:Nat):Int)<((V:Nat):Int):=by omega
              clear z;go_wp2_with fail;go_region;go_wp2_with (go_at_call 47;refine(Iy _ sbase (some ⟨Z,0,none⟩) scap U (by exact(B.alloc _).drew) (by omega) x.name).mono ?_;rintro e w2 ⟨n,H⟩;subst w2;rw[G.out]at n;subst n);refine⟨⟨k+1,r,rfl,((b.setOther ⟨g2,j,none⟩ _ (by show h≠g2;omega)).alloc _).drew,?_,((q.setCell (p:=⟨g2,j,none⟩) L _).alloc (by have:=q.size;simp;omega) _).drew⟩,by simp[intOf];omega⟩;have h5:=((u.setCell j (.int .i64 (((V:Nat):Nat):Int))).alloc (.cells #[.string (bs x.name),.slice tq x.ts.length N,.int .i64 (x.pl:Nat),.int .i64 (x.af:Nat),.bool false] 69)).drew;rw[List.set_set]at h5;rw[E.out];exact h5
             ·have E:=Ao (show Db f p m0 (c.ai.take (k+1))=m by rw[z.out,Af (by omega)]);have I:¬((m:Nat):Int)<((V:Nat):Int):=by omega
              clear z;go_wp2_with fail;go_region;go_wp2_with (go_at_call 47;refine(Iy _ sbase (some ⟨Z,0,none⟩) scap U (by exact(B.alloc _).drew) (by omega) x.name).mono ?_;rintro e w2 ⟨n,H⟩;subst w2;rw[G.out]at n;subst n);exact⟨⟨k+1,r,rfl,(b.alloc _).drew,by rw[E.out];exact(u.alloc _).drew,(q.alloc q.size _).drew⟩,by simp[intOf];omega⟩
            ·rw[C]at d4;simp only[C,Bk]at z;by_cases y2:m<V+1
             ·have E:=Ao (show Db f p m0 (c.ai.take (k+1))=V+1 by rw[z.out,Ai (by omega)]);have I:((m:Nat):Int)<((V:Nat):Int)+1:=by omega
              clear z;go_wp2_with fail;go_region;go_wp2_with (go_at_call 47;refine(Iy _ sbase (some ⟨Z,0,none⟩) scap U (by exact(B.alloc _).drew) (by omega) x.name).mono ?_;rintro e w2 ⟨n,H⟩;subst w2;rw[G.out]at n;subst n);refine⟨⟨k+1,r,rfl,((b.setOther ⟨g2,j,none⟩ _ (by show h≠g2;omega)).alloc _).drew,?_,((q.setCell (p:=⟨g2,j,none⟩) L _).alloc (by have:=q.size;simp;omega) _).drew⟩,by simp[intOf];omega⟩;have h5:=((u.setCell j (.int .i64 (((V+1:Nat):Nat):Int))).alloc (.cells #[.string (bs x.name),.slice tq x.ts.length N,.int .i64 (x.pl:Nat),.int .i64 (x.af:Nat),.bool true] 69)).drew;rw[List.set_set]at h5;rw[E.out];exact h5
             ·have E:=Ao (show Db f p m0 (c.ai.take (k+1))=m by rw[z.out,Af (by omega)]);have I:¬((m:Nat):Int)<((V:Nat):Int)+1:=by omega
              clear z;go_wp2_with fail;go_region;go_wp2_with (go_at_call 47;refine(Iy _ sbase (some ⟨Z,0,none⟩) scap U (by exact(B.alloc _).drew) (by omega) x.name).mono ?_;rintro e w2 ⟨n,H⟩;subst w2;rw[G.out]at n;subst n);exact⟨⟨k+1,r,rfl,(b.alloc _).drew,by rw[E.out];exact(u.alloc _).drew,(q.alloc q.size _).drew⟩,by simp[intOf];omega⟩
           ·have j3:k=c.body.length:=by omega
            have W:=Ao (show Db f p 0 (BJ (l.take (i+1)))=Db f p m0 (c.ai.take k) by rw[X.out,j3,j8.out]);clear j3;go_wp2_with fail;go_region;go_wp2_with fail;exact⟨⟨i+1,d,rfl,b.drew,by rw[W.out];exact u.drew,q.drew⟩,by simp[intOf];omega⟩
       ·have hq:((bs c.head.name).toList==(bs p).toList)=false:=by rw[D4];simpa using hc
        have HO:=Ao (show Db f p 0 (BJ (l.take (i+1)))=m0 by
           rw[X.out]
           exact Tw f p m0 c.ai (by
             intro e n;unfold RC.ai at n;obtain⟨a,_,rfl⟩:=List.mem_map.1 n
             exact hc))
        have c0:wr.cell? ⟨gc,i*6,none⟩=some (.string (bs c.head.name)):=by rw[y.cell (p:=⟨gc,i*6,none⟩) P];exact b0
        have c5:wr.cell? ⟨gc,i*6+5,none⟩=some (.slice bo c.body.length bcap):=by rw[y.cell (p:=⟨gc,i*6+5,none⟩) P];exact b5
        have u1:wr.cell? ⟨Z,j,none⟩=some (.string (bs p)):=by rw[y.cell (p:=⟨Z,j,none⟩) M];exact u0
        clear b0 b1 b2 b3 b4 b5 X hc;go_wp2_with fail
        go_loopw [10] (fun kv Q=>kv=.int .i64 0/\Q=wr) (fun _ _=>0)
        case atStart=>exact⟨rfl,rfl⟩
        case round=>
           obtain⟨rfl,rfl⟩:=hrel;by_cases y9:0<c.body.length
           ·have q8:(0:Int)<(c.body.length:Int):=by omega
            go_wp2_with fail;go_region;go_wp2_with fail;exact⟨⟨i+1,d,rfl,Y.drew,by rw[HO.out];exact s.drew,y.drew⟩,by simp[intOf];omega⟩
           ·have q8:¬(0:Int)<(c.body.length:Int):=by omega
            go_wp2_with fail;go_region;go_wp2_with fail;exact⟨⟨i+1,d,rfl,Y.drew,by rw[HO.out];exact s.drew,y.drew⟩,by simp[intOf];omega⟩
      ·have j1:i=l.length:=by omega
       rw[j1,AL,<-z0.out,z7.out]at s;clear j1;go_wp2_with fail;exact⟨⟨j+1,o,rfl,Y,s,y⟩,by simp[intOf];omega⟩
    ·have j2:j=U.length:=by omega
     have W:=Ao (Xz U (Og (BJ l) f));rw[<-j2]at W;clear j2;rw[W.out]at hM;go_wp2_with fail;exact⟨⟨t+1,g2,z9,rfl,rfl,L,by rw[z4.out];exact hM,A⟩,by simp[intOf];omega⟩
  ·have j5:t=U.length:=by omega
   have W:=Ao (show D9 (BJ l) t=D9 (BJ l) U.length by rw[j5]);clear j5;go_wp2_with fail
   go_ret
   rw[<-W.out];exact⟨h,rfl,hK,hB⟩
end
end Go.Proofs.YtpbfiffgcgnidaaGreatDoor
