import Derived.Test.YtpbfiffgcgnidaaGreatDoorYal
import Derived.WideKeyArr
import Derived.DeepKeys4
import Derived.Laws.Rows
import Derived.Laws.Tables
import Derived.Laws.CopyOwn
import Derived.Laws.ResultCell
import Derived.Test.YtpbfiffgcgnidaaGreatDoorY7
namespace Go.Proofs.YtpbfiffgcgnidaaGreatDoor
set_option maxRecDepth 100000
set_option maxHeartbeats 4000000
set_option linter.unusedSectionVars false
set_option linter.unusedSimpArgs false
open Go.Proofs.Tryz
section
open Go.RowKit Go.WideMaps Go.Maps
structure A3(S:Nat->Prop)(w w':World):Prop where
 os:w'.os=w.os
 tape:w'.tape=w.tape
 output:w'.output=w.output
 size:w.heap.size<=w'.heap.size
 block:∀k,k<w.heap.size->¬S k->w'.heap[k]? =w.heap[k]?
theorem A3.ab{S:Nat->Prop}{w w':World}(h:Below w.heap.size w w'):A3 S w w':=⟨h.os,h.tape,h.output,h.size,fun k q _=>h.block k q⟩
theorem A3.cr{S:Nat->Prop}{w w':World}{row:Option Nat}(h:w.grownBy w' row)(hS:∀k,row=some k->S k):A3 S w w':=⟨h.os,h.tape,h.output,h.size,fun k q hn=>h.block k q (fun e=>hn (hS k e.symm))⟩
theorem A3.trans{S S':Nat->Prop}{w w1 w2:World}(h:A3 S w w1)(q:A3 S' w1 w2)(hS:∀k,k<w.heap.size->S' k->S k):A3 S w w2:=
 ⟨q.os.trans h.os,q.tape.trans h.tape,q.output.trans h.output,Ay h.size q.size,fun k j hn=>(q.block k (AH j h.size) (fun e=>hn (hS k j e))).trans (h.block k j hn)⟩
theorem A3.mono{S S':Nat->Prop}{w w':World}(h:A3 S w w')(hS:∀k,S k->S' k):A3 S' w w':=⟨h.os,h.tape,h.output,h.size,fun k q hn=>h.block k q (fun e=>hn (hS k e))⟩
theorem A3.setCell{S:Nat->Prop}{w w':World}(h:A3 S w w'){p:Addr}(q:S p.block\/w.heap.size<=p.block)(u:Value):A3 S w (w'.setCell p u):=
 ⟨h.os,h.tape,h.output,by rw[show(w'.setCell p u).heap.size=w'.heap.size by simp[World.setCell]];exact h.size,fun k j hn=>(FD w' p u k (by
   rintro rfl;rcases q with q|q
   ·exact hn q
   ·omega)).trans (h.block k j hn)⟩
theorem A3.alloc{S:Nat->Prop}{w w':World}(h:A3 S w w')(o:Obj):A3 S w (w'.alloc o):=
 ⟨h.os,h.tape,h.output,by have:=h.size;simp;omega,fun k q hn=>(Below.heap_alloc w' o k (by have:=h.size;omega)).trans (h.block k q hn)⟩
theorem A3.drew{S:Nat->Prop}{w w':World}(h:A3 S w w'):A3 S w w'.drew:=⟨h.os,h.tape,h.output,h.size,h.block⟩
theorem A3.below{S:Nat->Prop}{w w':World}{B:Nat}(h:A3 S w w')(hB:B<=w.heap.size)(hS:∀k,S k->B<=k):Below B w w':=⟨h.os,h.tape,h.output,h.size,fun k hk=>h.block k (by omega) (fun e=>by have:=hS k e;omega)⟩
theorem Aw.only{S:Nat->Prop}{w w':World}{b:Nat}{cs:List Value}{t:TypeId}(h:Aw w b cs t)(j:A3 S w w')(hn:¬S b):Aw w' b cs t:=by have q:=h.lt;unfold Aw at*;rw[j.block b q hn,h]
theorem BI{S:Nat->Prop}{w w':World}{base:Nat}{e:TypeId}{size:Nat}{v:Value}{n:Nat}{xs:List Value}(h:w.ownsRow base e size v n xs)(j:A3 S w w')(hn:∀k,v.ownBlock=some k->¬S k):w'.ownsRow base e size v n xs:=by
 refine⟨h.1,?_⟩;rcases h.2 with z|⟨g,cap,cur,rfl,hb,q,r⟩
 ·exact .inl z
 ·refine .inr ⟨g,cap,cur,rfl,hb,?_,r⟩;rw[j.block g (Array.getElem?_eq_some_iff.1 q).1 (hn g rfl),q]
def Df(w:World)(S:Nat->Prop)(e:TypeId):Prop:=∀k,S k->∀cur z,w.heap[k]? ≠some (.cells cur e z)
theorem F2{S:Nat->Prop}{w:World}{base:Nat}{e:TypeId}{size:Nat}{v:Value}{n:Nat}{xs:List Value}(h:w.ownsRow base e size v n xs)(ht:Df w S e):∀k,v.ownBlock=some k->¬S k:=by
 intro k q hS;rcases h.2 with⟨rfl,_⟩|⟨g,cap,cur,rfl,_,j,_⟩
 ·simp[Value.ownBlock]at q
 ·simp only[Value.ownBlock,Al]at q;subst q;exact ht g hS _ _ j
section
variable {P:Program} (w:World)
theorem RU(t ty e:TypeId)(i:TypeInfo)(z:Value)(base bytes:Nat)(ht:P.underlying t=some (.slice e))(l:P.info? e=some i)(Q:i.zero=some z)(f:i.bytes=bytes)
 (v:Value)(n:Nat)(xs:List Value)(b:w.ownsRow base e i.size v n xs)(a:Addr)(m c:Nat)(q:List Value)(Z:0<m)(p:q.length=m*i.size)(y:∀j u,q[j]? =some u->w.cell? (a.add j)=some u)(h1:∀u∈q,u.oneCell'=true)
 (x:n+m<=maxLen)(k:(n+m)*bytes<=140737488355328)(v':Value)(w':World)(r:(Builtin.append_ #[t,t] ty #[v,.slice (some a) m c]).run P w=.ok v' w'):v'.ownBlock=v.ownBlock\/v'.ownBlock=some w.heap.size:=by
 subst f;have s:=x;unfold maxLen at s;rcases b.2 with⟨rfl,rfl⟩|⟨g,cap,cur,rfl,_,J,_,_,o,_⟩
 ·rw[run_append_nil (P:=P) w t ty e i z ht l Q a m c q p y Z (by omega) (by rw[B7]at k;omega)]at r
  injection r with h2
  rw[<-h2];exact .inr rfl
 ·by_cases d:n+m<=cap
  ·rw[run_append_room (P:=P) w t ty e i ht l g n cap cur J a m c q p y h1 d (by rw[p,o,<-Nat.add_mul];exact E3 _ d)]at r
   injection r with h2
   rw[<-h2];exact .inl rfl
  ·rw[run_append_grow (P:=P) w t ty e i z ht l Q ⟨g,0,none⟩ n cap xs b.1 (b.cells (g:=g) rfl) a m c q p y (by omega) (by omega) (growslice_fits (by omega) k)]at r
   injection r with h2
   rw[<-h2];exact .inr rfl
theorem Lo{o:Oper}{a:Act}{K:Act->World->Prop}{Q:Exit->Act->World->Prop}(s x:Operand)(t:TypeId)(J:o.op=.call { callee:=.builtin .append,args:=#[s,x],argTypes:=#[t,t] })
 (base:Nat)(e:TypeId)(i:TypeInfo)(z:Value)(size bytes:Nat)(ht:P.underlying t=some (.slice e))(U:P.info? e=some i)(R:i.zero=some z)(b:i.size=size)(f:i.bytes=bytes)(V:z.cells.size=size)(Z:0<size)
 (v:Value)(n:Nat)(xs:List Value)(hs:a.eval s=v)(d:w.ownsRow base e size v n xs)(l:Addr)(m c:Nat)(q:List Value)(hx:a.eval x=.slice (some l) m c)(M:0<m)(G:q.length=m*size)(k:∀j u,q[j]? =some u->w.cell? (l.add j)=some u)(h1:∀u∈q,u.oneCell'=true)
 (p:n+m<=maxLen)(y:(n+m)*bytes<=140737488355328)(r:base<=w.heap.size)
 (C:∀g cap w',w'.ownsRow base e size (.slice (some ⟨g,0,none⟩) (n+m) cap) (n+m) (xs++q)->w.grownBy w' v.ownBlock->(some g=v.ownBlock\/g=w.heap.size)->K (a.put o.dst (.slice (some ⟨g,0,none⟩) (n+m) cap)) w'):o.wp P a w K Q:=by
 obtain⟨v',w',B,h2,h3,_⟩:=run_append_own (P:=P) w base t o.type e i z size bytes ht U R b f V Z v n xs d l m c q G k h1 p y r;subst b;have Y:=RU (P:=P) w t o.type e i z base bytes ht U R f v n xs d l m c q M G k h1 p y v' w' B;unfold Oper.wp execOp;simp only[J,resolve,invoke,builtin,Sem.run_bind,Sem.run_pure,Result.andThen_ok,List.map_toArray,A6,KM,hs,hx,B];rcases h2.2 with⟨_,hn⟩|⟨g,cap,cur,rfl,_⟩
 ·omega
 ·exact C g cap w' h2 h3 (by
   rcases Y with h|h
   ·exact .inl h
   ·exact .inr (by simpa[Value.ownBlock]using h))
theorem CP{p:Array Oper}{o:Oper}{a:Act}{K:Act->World->Prop}{Q:Exit->Act->World->Prop}{E:Prop}
 (Z:o.guard=none)(s x:Operand)(t:TypeId)(Y:o.op=.call { callee:=.builtin .append,args:=#[s,x],argTypes:=#[t,t] })
 (base:Nat)(e:TypeId)(i:TypeInfo)(z:Value)(size bytes:Nat)(ht:P.underlying t=some (.slice e))(B:P.info? e=some i)(N:i.zero=some z)(d:i.size=size)(J:i.bytes=bytes)(U:z.cells.size=size)(V:0<size)
 (v:Value)(n:Nat)(xs:List Value)(hs:a.eval s=v)(r:w.ownsRow base e size v n xs)(f:Addr)(m c:Nat)(q:List Value)(hx:a.eval x=.slice (some f) m c)(C:0<m)(R:q.length=m*size)(b:∀j u,q[j]? =some u->w.cell? (f.add j)=some u)(h1:∀u∈q,u.oneCell'=true)
 (l:n+m<=maxLen)(y:(n+m)*bytes<=140737488355328)(k:base<=w.heap.size)
 (G:∀g cap w',w'.ownsRow base e size (.slice (some ⟨g,0,none⟩) (n+m) cap) (n+m) (xs++q)->w.grownBy w' v.ownBlock->(some g=v.ownBlock\/g=w.heap.size)->K (a.put o.dst (.slice (some ⟨g,0,none⟩) (n+m) cap)) w'):
 if Region.wanted o (yielded p a.tmps)=true then Oper.wp P o a w K Q else E:=by
 have M:Region.wanted o (yielded p a.tmps)=true:=by simp[Region.wanted,Z]
 rw[Ai M];exact Lo w s x t Y base e i z size bytes ht B N d J U V v n xs hs r f m c q hx C R b h1 l y k G
theorem Bv{p:Array Oper}{rest:List Oper}{o:Oper}{a:Act}{Q:Exit->Act->World->Prop}(Z:o.guard=none)(s x:Operand)(t:TypeId)(Y:o.op=.call { callee:=.builtin .append,args:=#[s,x],argTypes:=#[t,t] })
 (base:Nat)(e:TypeId)(i:TypeInfo)(z:Value)(size bytes:Nat)(ht:P.underlying t=some (.slice e))(B:P.info? e=some i)(M:i.zero=some z)(d:i.size=size)(J:i.bytes=bytes)(V:z.cells.size=size)(K:0<size)
 (v:Value)(n:Nat)(xs:List Value)(hs:a.eval s=v)(r:w.ownsRow base e size v n xs)(f:Addr)(m c:Nat)(q:List Value)(hx:a.eval x=.slice (some f) m c)(C:0<m)(R:q.length=m*size)(b:∀j u,q[j]? =some u->w.cell? (f.add j)=some u)(h1:∀u∈q,u.oneCell'=true)
 (l:n+m<=maxLen)(y:(n+m)*bytes<=140737488355328)(k:base<=w.heap.size)
 (h:∀g cap w',w'.ownsRow base e size (.slice (some ⟨g,0,none⟩) (n+m) cap) (n+m) (xs++q)->w.grownBy w' v.ownBlock->(some g=v.ownBlock\/g=w.heap.size)->wpList P p Q rest (a.put o.dst (.slice (some ⟨g,0,none⟩) (n+m) cap)) w'):wpList P p Q (o::rest) a w:=
 wpList_plain Z fun _ G=>Lo w s x t Y base e i z size bytes ht B M d J V K v n xs hs r f m c q hx C R b h1 l y k fun g cap w' h2 h3 U=>G _ _ (h g cap w' h2 h3 U)
end
end
section
open Go.RowKit Go.WideMaps Go.Maps
def Ci{α:Type}[DecidableEq α](xs:List α)(k:α):Nat:=if k∈xs then xs.idxOf k else 0
theorem Gd{α:Type}[DecidableEq α](xs:List α)(k:α)(q:k∉xs):Ci (xs++[k]) k=xs.length:=by simp[Ci,Ec,q]
theorem Lz{α:Type}[DecidableEq α](xs:List α)(k j:α)(q:¬j=k):Ci (xs++[k]) j=Ci xs j:=by
 by_cases hx:j∈xs
 ·simp[Ci,hx,Ec]
 ·simp[Ci,hx,q]
def CO{α:Type}[DecidableEq α](xs:List α)(k:α):List α:=if k∈xs then xs else xs++[k]
theorem FX{w:World}{p:Addr}{v:Value}(h:w.cell? p=some v):p.block<w.heap.size:=by apply Bj;intro hn;have q:w.heap[p.block]? =none:=Pf (by omega);simp[World.cell?,q]at h
def lG(n:Int):Prop:= -9223372036854775808<=n/\n<=9223372036854775807
theorem lG.wf{n:Int}(h:lG n):(Lit.int .i64 n).wf=true:=Hg h
structure R3 where
 a:Int
 b:Int
 c:Int
structure R3.Wf(r:R3):Prop where
 a:lG r.a
 b:lG r.b
 c:lG r.c
def Bh(r:R3):List Value:=[.int .i64 r.a,.int .i64 r.b,.int .i64 r.c]
def jS(r:R3):Value:=.agg #[.int .i64 r.a,.int .i64 r.b,.int .i64 r.c]
def Nj(r:R3):Lit:=.string (keyBytes [.int .i64 r.a,.int .i64 r.b,.int .i64 r.c])
structure A4 where
 n:Int
 r:R3
structure A4.Wf(x:A4):Prop where
 n:lG x.n
 r:x.r.Wf
def CQ(x:A4):List Value:=.int .i64 x.n::Bh x.r
def jT(x:A4):Value:=.agg #[.int .i64 x.n,.int .i64 x.r.a,.int .i64 x.r.b,.int .i64 x.r.c]
def Nk(x:A4):Lit:=.string (keyBytes [.int .i64 x.n,.int .i64 x.r.a,.int .i64 x.r.b,.int .i64 x.r.c])
def Mn(k:Nat):Lit:=.int .i64 (k:Nat)
theorem Ts:laidOutB prog=true:=by kernel_rfl
theorem jG:KeyLaw prog 221:=deep_law_laid Ts (m:=3) (by decide) (by decide+kernel) (by kernel_rfl) (by kernel_rfl)
theorem jH:KeyLaw prog 223:=deep_law_laid Ts (m:=4) (by decide) (by decide+kernel) (by kernel_rfl) (by kernel_rfl)
theorem fV:Keyed prog 221:=Keyed.of_law jG
theorem fY:Keyed prog 223:=Keyed.of_law jH
theorem fX:Keyed prog 3:=int_keyed underlying3
theorem fU:Keyed prog 9:=string_keyed underlying9
theorem mH(k:R3):WideAt.IsKeyLit (Nj k):=by simp[Nj,WideAt.IsKeyLit]
theorem mJ(k:A4):WideAt.IsKeyLit (Nk k):=by simp[Nk,WideAt.IsKeyLit]
theorem mI(k:Nat):WideAt.IsKeyLit (Mn k):=by simp[Mn,WideAt.IsKeyLit]
theorem mG(k:B8):WideAt.IsKeyLit (.string k):=by simp[WideAt.IsKeyLit]
theorem Z6(k:Nat)(h:k<=1000000000000000):keyOf prog 3 (.int .i64 (k:Nat))=some (Mn k):=keyOf_int_mk underlying3 (lG.wf ⟨by omega,by omega⟩)
theorem Z5(k:B8)(h:k.length<=maxLen):keyOf prog 9 (.string (bs k))=some (.string k):=keyOf_string_mk underlying9 (by rw[NC];exact h)
theorem Za:∃m,prog.types.size=m+1:=⟨prog.types.size-1,by
 have h:0<prog.types.size:=BV (by kernel_rfl)
 omega⟩
theorem oE:prog.keyType 221=true:=by kernel_rfl
theorem oF:prog.keyType 223=true:=by kernel_rfl
theorem nS:prog.cellsOf 221=3:=by kernel_rfl
theorem oC:prog.cellsOf 223=4:=by kernel_rfl
theorem oG:prog.cellsOf 219=1:=by kernel_rfl
theorem oH:prog.cellsOf 3=1:=by kernel_rfl
theorem Wv(k:R3)(h:k.Wf)(m:Nat):prog.keyLits (m+2) 221 (Bh k)=some [.int .i64 k.a,.int .i64 k.b,.int .i64 k.c]:=by unfold Program.keyLits;simp only[underlying221];rw[Ai (by rw[nS];rfl),show List.range 3=[0,1,2] from rfl,Sd,Sd,Sd,List.mapM_nil];simp[oG,Bh,Program.keyLits,underlying219,h.a.wf,h.b.wf,h.c.wf]
theorem Rq(k:R3)(h:k.Wf):keyOf prog 221 (jS k)=some (Nj k):=by obtain⟨m,j⟩:=Za;have q:=Wv k h m;unfold keyOf;simp only[underlying221];rw[Ai (by simp[oE,Value.formed,jS,underlying221,nS]),j];show(prog.keyLits (m+2) 221 (Bh k)).map _=_;rw[q];rfl
theorem cG(k:A4)(h:k.Wf)(m:Nat):prog.keyLits (m+3) 223 (CQ k)=some [.int .i64 k.n,.int .i64 k.r.a,.int .i64 k.r.b,.int .i64 k.r.c]:=by
 have q:=Wv k.r h.r m;have hn:prog.keyLits (m+2) 3 [.int .i64 k.n]=some [.int .i64 k.n]:=by unfold Program.keyLits;simp[underlying3,h.n.wf]
 unfold Program.keyLits;simp only[underlying223];rw[Ai ⟨by rw[oC];rfl,by decide+kernel⟩];simp only[Sd,List.mapM_nil,oH,nS,CQ,B4,List.take_succ_cons,List.take_zero,Cm];rw[hn];have hc:(Bh k.r).take 3=Bh k.r:=rfl;rw[hc,q];rfl
theorem Rr(k:A4)(h:k.Wf):keyOf prog 223 (jT k)=some (Nk k):=by have hp:1<prog.types.size:=BV (by kernel_rfl);obtain⟨m,j⟩:∃m,prog.types.size=m+2:=⟨prog.types.size-2,by omega⟩;have q:=cG k h m;unfold keyOf;simp only[underlying223];rw[Ai (by simp[oF,Value.formed,jT,underlying223,oC]),j];show(prog.keyLits (m+3) 223 (CQ k)).map _=_;rw[q];rfl
theorem nO(j k:R3)(q:j.Wf)(z:k.Wf)(h:Nj j=Nj k):j=k:=by have e:=jG.inj (Rq j q) (h▸Rq k z);simp only[jS,Value.agg.injEq]at e;cases j;cases k;simp at e;simp[e]
theorem nQ(j k:A4)(q:j.Wf)(z:k.Wf)(h:Nk j=Nk k):j=k:=by have e:=jH.inj (Rr j q) (h▸Rr k z);simp only[jT,Value.agg.injEq]at e;obtain⟨n,⟨a,b,c⟩⟩:=j;obtain⟨n',⟨a',b',c'⟩⟩:=k;simp at e;simp[e]
theorem nP(j k:Nat)(_:j<=1000000000000000)(_:k<=1000000000000000)(h:Mn j=Mn k):j=k:=by simp[Mn]at h;omega
theorem nN(j k:B8)(_:j.length<=maxLen)(_:k.length<=maxLen)(h:Lit.string j=.string k):j=k:=by injection h
theorem LB{S:Nat->Prop}{w w':World}{P:Program}{k:TypeId}{R:Value->Option (DataW Unit×List MemPlace)}{r n:Nat}{D:DataW Unit}(h:w.ownsMap P k R r n D)(v:A3 S w w')(hn:¬S r):w'.ownsMap P k R r n D:=by have j:=h.lt;obtain⟨z,q,y,rest⟩:=h;exact⟨z,q,by rw[v.block r j hn];exact y,rest⟩
def AN:Value->Option Nat
 |.map m=>m
 |_=>none
structure Cs(w w':World)(sb:Nat)(mv lv mv' lv':Value):Prop where
 only:A3 (fun q=>q=sb\/AN mv=some q\/lv.ownBlock=some q) w w'
 map:AN mv'=AN mv\/∀q,AN mv'=some q->w.heap.size<=q
 row:lv'.ownBlock=lv.ownBlock\/∀q,lv'.ownBlock=some q->w.heap.size<=q
theorem A3.grown{S:Nat->Prop}{w w1 w2:World}{row:Option Nat}(h:A3 S w w1)(j:w1.grownBy w2 row)(hS:∀q,row=some q->S q\/w.heap.size<=q):A3 S w w2:=
 ⟨j.os.trans h.os,j.tape.trans h.tape,j.output.trans h.output,Ay h.size j.size,fun q hq hn=>(j.block q (AH hq h.size) (fun e=>by
   rcases hS q e.symm with h1|h1
   ·exact hn h1
   ·omega)).trans (h.block q hq hn)⟩
theorem Cs.still{w w':World}(h:Below w.heap.size w w')(sb:Nat)(mv lv:Value):Cs w w' sb mv lv mv lv:=⟨A3.ab h,.inl rfl,.inl rfl⟩
theorem Nr(cs:List Value)(o:Nat)(mv lv:Value)(z:cs[o]? =some mv)(h1:cs[o+1]? =some lv):(cs.set o mv).set (o+1) lv=cs:=by
 obtain⟨l0,q⟩:=List.getElem?_eq_some_iff.1 z;obtain⟨l1,j⟩:=List.getElem?_eq_some_iff.1 h1;have a:cs.set o mv=cs:=by rw[<-q,Dh]
 rw[a,<-j,Dh]
theorem Nw(w:World)(k:TypeId)(R:Value->Option (DataW Unit×List MemPlace))(p:Addr):((w.setCell p (.map (some w.heap.size))).alloc (.map #[] 0)).ownsMap (H:=Unit) prog k R w.heap.size 0 (.map []):=by
 have h:=World.ownsMap_made (H:=Unit) (w.setCell p (.map (some w.heap.size))) prog k R;have e:(w.setCell p (.map (some w.heap.size))).heap.size=w.heap.size:=by simp[World.setCell]
 rwa [e]at h
theorem mM:(prog.info? 3).map (fun i=>(i.zero,i.size,i.bytes))=some (some (.int .i64 0),1,8):=by kernel_rfl
theorem mK:(prog.info? 9).map (fun i=>(i.zero,i.size,i.bytes))=some (some (.string ⟨#[]⟩),1,16):=by kernel_rfl
theorem mL:(prog.info? 221).map (fun i=>(i.zero,i.size,i.bytes))=some (some (.agg #[.int .i64 0,.int .i64 0,.int .i64 0]),3,24):=by kernel_rfl
theorem mN:(prog.info? 223).map (fun i=>(i.zero,i.size,i.bytes))=some (some (.agg #[.int .i64 0,.int .i64 0,.int .i64 0,.int .i64 0]),4,32):=by kernel_rfl
end
section
attribute [local go_sem] AE As
open Go.RowKit Go.WideMaps Go.Maps
variable [DecidableEq R3] [DecidableEq A4]
def Ld(D:DataW Unit)(xs:List R3):Prop:=
 IsMap D/\∀k:R3,k.Wf->Maps.has D (Nj k)=decide (k∈xs)/\D.atKey (Nj k) (.lit (.int .i64 0))=.lit (.int .i64 (Ci xs k))
theorem Ld.nil:Ld (.map []) []:=⟨isMap_empty,fun _ _=>⟨rfl,rfl⟩⟩
theorem Ld.put{D:DataW Unit}{xs:List R3}(h:Ld D xs)(k:R3)(u:k.Wf)(v:k∉xs):Ld (D.put (Nj k) (.lit (.int .i64 xs.length))) (xs++[k]):=by
 refine⟨h.1.put _ _,fun j y=>?_⟩;by_cases z:j=k
 ·subst z;rw[has_put_same h.1 (mH j),atKey_put_same h.1 (mH j),Gd xs j v];exact⟨by simp,rfl⟩
 ·have q:(Nj j)≠(Nj k):=fun e=>z (nO j k y u e);rw[has_put_other q,atKey_put_other q,(h.2 j y).1,(h.2 j y).2,Lz xs k j z];exact⟨by simp[z],rfl⟩
def Dv(w:World)(base:Nat)(mv lv:Value)(xs:List R3):Prop:=
 w.ownsRow base 221 3 lv xs.length (xs.flatMap fun k=>(Bh k))/\(∀k∈xs,k.Wf)/\
 ((mv=.map none/\xs=[])\/∃r D,mv=.map (some r)/\base<=r/\w.ownsMap (H:=Unit) prog 221 (plainElem prog 3) r xs.length D/\Ld D xs)
theorem Dv.nil(w:World)(base:Nat):Dv w base (.map none) (.slice none 0 0) []:=⟨Ak _ _ _ _,by simp,.inl ⟨rfl,rfl⟩⟩
theorem Dv.below{base:Nat}{w w':World}{mv lv:Value}{xs:List R3}(h:Dv w base mv lv xs)(hb:Below w.heap.size w w'):Dv w' base mv lv xs:=by
 refine⟨Ah h.1 hb,h.2.1,?_⟩;rcases h.2.2 with h2|⟨r,D,j,y,z,q⟩
 ·exact .inl h2
 ·exact .inr ⟨r,D,j,y,Fy z hb,q⟩
theorem Dv.only{S:Nat->Prop}{base:Nat}{w w':World}{mv lv:Value}{xs:List R3}(h:Dv w base mv lv xs)(j:A3 S w w')(y:∀q,lv.ownBlock=some q->¬S q)(k:∀q,AN mv=some q->¬S q):Dv w' base mv lv xs:=by
 refine⟨BI h.1 j y,h.2.1,?_⟩;rcases h.2.2 with h2|⟨r,D,rfl,v,u,z⟩
 ·exact .inl h2
 ·exact .inr ⟨r,D,rfl,v,LB u j (k r rfl),z⟩
theorem Dv.lt{base:Nat}{w:World}{mv lv:Value}{xs:List R3}(h:Dv w base mv lv xs):(∀q,lv.ownBlock=some q->base<=q/\q<w.heap.size)/\∀q,AN mv=some q->base<=q/\q<w.heap.size:=by
 refine⟨fun q hq=>h.1.lt q hq,?_⟩;rcases h.2.2 with⟨rfl,_⟩|⟨r,D,rfl,j,z,hD⟩
 ·intro q hq;simp[AN]at hq
 ·intro q hq;simp only[AN,Al]at hq;subst hq;exact⟨j,z.lt⟩
theorem Dv.alloc{base:Nat}{w:World}{mv lv:Value}{xs:List R3}(h:Dv w base mv lv xs)(o:Obj):Dv (w.alloc o) base mv lv xs:=h.below (Ac w o)
theorem Rz(w:World)(base sb o:Nat)(mv lv:Value)(xs:List R3)(k:R3)(m:w.cell? ⟨sb,o,none⟩=some mv)(hS:Dv w base mv lv xs)(d:k.Wf):
 Calls prog 232 #[.pointer (some ⟨sb,o,none⟩),(.agg #[.int .i64 k.a,.int .i64 k.b,.int .i64 k.c])] w fun e w'=>e=.returned (.tuple #[.int .i64 (Ci xs k:Nat),.bool (decide (k∈xs))])/\Below w.heap.size w w':=by
 have q:keyOf prog 221 (.agg #[.int .i64 k.a,.int .i64 k.b,.int .i64 k.c])=some (Nj k):=Rq k d;have q1:=FX m;have z:=Ag w.heap.size w;have y:=Ac w (.cells #[.int .i64 k.a,.int .i64 k.b,.int .i64 k.c] 221);rcases hS.2.2 with⟨rfl,rfl⟩|⟨r,D,rfl,hr,j,n⟩
 ·have q0:=fun w:World=>look_nil (w:=w) true fV underlying261 (KO w) q;go_enter func232,ntmps232;go_wp2_with fail;go_region;go_wp2_with fail;go_ret2;exact⟨rfl,by first|exact z|exact y.drew⟩
 ·obtain⟨x,g⟩:=n.2 k d;obtain⟨p,t⟩:∃p:Int,Hid (p=(Ci xs k:Nat)):=⟨_,rfl⟩;rw[<-t.out]at g⊢;have look:∀W:World,W.ownsMap (H:=Unit) prog 221 (plainElem prog 3) r xs.length D->(Instr.lookup 261 (.map (some r)) (.agg #[.int .i64 k.a,.int .i64 k.b,.int .i64 k.c]) true).run prog W=.ok (.tuple #[.int .i64 p,.bool (decide (k∈xs))]) W:=by intro W hW;obtain⟨v,ps,u,hR⟩:=hW.look_ok fV underlying261 (KO W) (C2 underlying3 (by decide)) q;obtain⟨c,rfl,hc,_⟩:=No underlying3 hR;have e:=Bl Prod.fst hc;simp only[]at e;rw[g]at e;simp at e;rw[u,x,<-e]
  have l0:=look w j;have l1:=look (w.alloc (.cells #[.int .i64 k.a,.int .i64 k.b,.int .i64 k.c] 221)).drew (by exact j.alloc _);clear look;go_enter func232,ntmps232;go_wp2_with fail;go_region;go_wp2_with fail;go_ret2;exact⟨rfl,by first|exact z|exact y.drew⟩
theorem Vm(w:World)(base sb o:Nat)(mv lv:Value)(xs:List R3)(c1:w.cell? ⟨sb,o+1,none⟩=some lv)(hS:Dv w base mv lv xs):
 Calls prog 151 #[.pointer (some ⟨sb,o,none⟩)] w fun e w'=>e=.returned (.int .i64 xs.length)/\w'=w:=by
 obtain⟨ao,cap,rfl⟩:=Au hS.1;go_enter func151,ntmps151;go_wp2
 go_ret
 exact⟨rfl,rfl⟩
theorem iD(w:World)(base sb o:Nat)(mv lv:Value)(xs:List R3)(k:R3)(v:w.cell? ⟨sb,o,none⟩=some mv)(hS:Dv w base mv lv xs)(d:k.Wf)(hx:k∈xs):
 Calls prog 229 #[.pointer (some ⟨sb,o,none⟩),(.agg #[.int .i64 k.a,.int .i64 k.b,.int .i64 k.c])] w fun e w'=>e=.returned (.tuple #[.int .i64 (Ci xs k),.bool false])/\Below w.heap.size w w':=by
 obtain⟨p,g⟩:∃p:Int,Hid (p=(Ci xs k:Nat)):=⟨_,rfl⟩;have u:=FX v;have q:=Ac w (.cells #[.int .i64 k.a,.int .i64 k.b,.int .i64 k.c] 221);have z:=Rz w base sb o mv lv xs k v hS d;have y:=Rz (w.alloc (.cells #[.int .i64 k.a,.int .i64 k.b,.int .i64 k.c] 221)) base sb o mv lv xs k (by rw[q.cell (p:=⟨sb,o,none⟩) u];exact v) (hS.alloc _) d;rw[Bq hx,<-g.out]at z y;rw[<-g.out];go_enter func229,ntmps229;go_wp2_with (go_at_call 232;first|(refine z.mono ?_;rintro e w9 ⟨rfl,j⟩)|(refine y.mono ?_;rintro e w9 ⟨rfl,j⟩));go_ret2;exact⟨rfl,by first|exact j|exact q.trans (j.mono q.size)⟩
theorem iH(w:World)(base sb o:Nat)(cs:List Value)(t:TypeId)(mv lv:Value)(xs:List R3)(k:R3)(L:Aw w sb cs t)(I:cs[o]? =some mv)(h1:cs[o+1]? =some lv)(hS:Dv w base mv lv xs)(O:k.Wf)(hx:k∉xs)(hn:xs.length<=1000000000000)(ht:t≠221)(y3:base<=w.heap.size):
 Calls prog 229 #[.pointer (some ⟨sb,o,none⟩),(.agg #[.int .i64 k.a,.int .i64 k.b,.int .i64 k.c])] w fun e w'=>e=.returned (.tuple #[.int .i64 xs.length,.bool true])/\
  ∃A lv',Aw w' sb ((cs.set o A).set (o+1) lv') t/\Dv w' base A lv' (xs++[k])/\Cs w w' sb mv lv A lv':=by
 have c0:w.cell? ⟨sb,o,none⟩=some mv:=(L.cell o).trans I;have y6:o+1<cs.length:=(List.getElem?_eq_some_iff.1 h1).1;have C:keyOf prog 221 (.agg #[.int .i64 k.a,.int .i64 k.b,.int .i64 k.c])=some (Nj k):=Rq k O;obtain⟨i1,q2,q8,q9,j0⟩:=Bc mL;obtain⟨pp,HP⟩:∃p:Int,Hid (p=(Ci xs k:Nat)):=⟨_,rfl⟩;have hF:=Rz (w.alloc (.cells #[.int .i64 k.a,.int .i64 k.b,.int .i64 k.c] 221)) base sb o mv lv xs k (((L.alloc _).cell o).trans I) (hS.alloc _) O;rw[A5 hx,<-HP.out]at hF;obtain⟨ao,cap,rfl⟩:=Au hS.1
 have q7:∀j∈xs++[k],j.Wf:=by
  intro j hj;rw[Bi,A7]at hj;rcases hj with hj|rfl
  ·exact hS.2.1 j hj
  ·exact O
 have j8:((xs++[k]).flatMap fun k=>(Bh k))=(xs.flatMap fun k=>(Bh k))++(Bh k):=by simp
 have HX:=Ao hx;have z5:sb≠w.heap.size:=by have:=L.lt;omega
 have R:=Ac w (.cells #[.int .i64 k.a,.int .i64 k.b,.int .i64 k.c] 221);rcases hS.2.2 with⟨rfl,rfl⟩|⟨r,D,rfl,hr,q4,hD⟩
 ·have q3:=fun w:World=>DX (P:=prog) w 261 221 3 none underlying261;have y5:=@run_makeMap prog;clear hx c0;go_enter func229,ntmps229;go_wp2_with (go_at_call 232;refine hF.mono ?_;rintro e w9 ⟨rfl,m⟩;have y:=(L.alloc (.cells #[.int .i64 k.a,.int .i64 k.b,.int .i64 k.c] 221)).below m;have J:=(hS.alloc (.cells #[.int .i64 k.a,.int .i64 k.b,.int .i64 k.c] 221)).below m;have d:Aw w9 w.heap.size (Bh k) 221:=(Aw.new w (Bh k) 221).below m;have B:=R.trans (m.mono R.size);have z4:=B.size;have j5:=d.lt;have q5:=y.lt;have f0:=y.frozen;have y0:w9.cell? ⟨w.heap.size,0,none⟩=some (.int .i64 k.a):=d.cell 0;have y1:w9.cell? ⟨w.heap.size,1,none⟩=some (.int .i64 k.b):=d.cell 1;have y2:w9.cell? ⟨w.heap.size,2,none⟩=some (.int .i64 k.c):=d.cell 2;have g0:w9.cell? ⟨sb,o,none⟩=some (.map none):=(y.cell o).trans I;have g1:w9.cell? ⟨sb,o+1,none⟩=some (.slice ao 0 cap):=(y.cell (o+1)).trans h1;have M:sb≠w9.heap.size:=(by omega));have X:=Nw w9 221 (plainElem prog 3) ⟨sb,o,none⟩;have j2:Aw ((w9.setCell ⟨sb,o,none⟩ (.map (some w9.heap.size))).alloc (.map #[] 0)) sb (cs.set o (.map (some w9.heap.size))) t:=(y.setCell o (.map (some w9.heap.size))).alloc (.map #[] 0);have j4:Aw ((w9.setCell ⟨sb,o,none⟩ (.map (some w9.heap.size))).alloc (.map #[] 0)) w.heap.size (Bh k) 221:=(d.setOther ⟨sb,o,none⟩ _ (FG z5)).alloc (.map #[] 0);have U:=Hp J.1 (k:=w9.heap.size) (Ab _);have j3:=(AJ J.1 ⟨sb,o,none⟩ (.map (some w9.heap.size)) (Av J.1 y ht)).alloc (.map #[] 0);obtain⟨w1,z3,Q,z⟩:=KK (w:=((w9.setCell ⟨sb,o,none⟩ (.map (some w9.heap.size))).alloc (.map #[] 0)).drew) (by exact X) fV underlying261 (by unfold maxLen;omega) C (C2 underlying3 (a:=0) (by decide));have v:=j2.drew.grown z (by simpa using M.symm);have s:=j4.drew.grown z (by simp;omega);have Y:w1.ownsRow base 221 3 (.slice ao 0 cap) 0 []:=L5 (by exact j3) z (.inr U);have d0:w1.cell? ⟨sb,o,none⟩=some (.map (some w9.heap.size)):=by rw[v.cell o,CD (by omega)]
  have d1:w1.cell? ⟨sb,o+1,none⟩=some (.slice ao 0 cap):=by rw[v.cell (o+1),CB (by omega)];exact h1
  have fB:=v.frozen;have j9:=v.lt;have H:=s.lt;have z0:w1.cell? ⟨w.heap.size,0,none⟩=some (.int .i64 k.a):=s.cell 0;have z1:w1.cell? ⟨w.heap.size,1,none⟩=some (.int .i64 k.b):=s.cell 1;have z2:w1.cell? ⟨w.heap.size,2,none⟩=some (.int .i64 k.c):=s.cell 2;go_region;have K:(w1.alloc (.cells #[.int .i64 k.a,.int .i64 k.b,.int .i64 k.c] 221)).drew.ownsRow base 221 3 (.slice ao 0 cap) 0 []:=(by exact Y.alloc _);have l:∀j u,((Bh k))[j]? =some u->(w1.alloc (.cells #[.int .i64 k.a,.int .i64 k.b,.int .i64 k.c] 221)).drew.cell? ((⟨w1.heap.size,0,none⟩:Addr).add j)=some u:=(by exact AS w1 (Bh k) 221);have G:∀u∈(Bh k),u.oneCell'=true:=(by intro u hu;simp[Bh]at hu;rcases hu with rfl|rfl|rfl<;>rfl);have N:base<=(w1.alloc (.cells #[.int .i64 k.a,.int .i64 k.b,.int .i64 k.c] 221)).drew.heap.size:=by have:=z.size;simp at this;simp;omega
  go_wp2_with fail
  go_region_law (refine CP _ rfl (.tmp 41) (.tmp 43) 262 rfl base 221 i1 _ 3 24 underlying262 q2 q8 q9 j0 rfl (by decide) (.slice ao 0 cap) 0 [] (by simp[Act.eval]) K ⟨w1.heap.size,0,none⟩ 1 1 (Bh k) (by simp[Act.eval]) (by decide) rfl l G (by unfold maxLen;omega) (by omega) N ?_;intro g Z w2 V f E;have x:=(v.alloc (.cells #[.int .i64 k.a,.int .i64 k.b,.int .i64 k.c] 221)).drew.grown f (Av Y v ht);have e1:w2.cell? ⟨sb,o+1,none⟩=some (.slice ao 0 cap):=(by rw[x.cell (o+1),CB (by omega)];exact h1);have j1:=x.frozen)
  all_goals
   go_wp2_with fail;go_ret2;have z9:base<=w1.heap.size:=by have:=z.size;simp at this;omega
   refine⟨rfl,.map (some w9.heap.size),.slice (some ⟨g,0,none⟩) 1 Z,x.setCell (o+1) _,⟨?_,q7,.inr ⟨w9.heap.size,_,rfl,by omega,?_,Ld.nil.put k O HX.out⟩⟩,?_⟩
   ·simpa using AJ V ⟨sb,o+1,none⟩ _ (Av V x ht)
   ·have h2:=L6 (w:=(w1.alloc (.cells #[.int .i64 k.a,.int .i64 k.b,.int .i64 k.c] 221)).drew) (by exact Q.alloc _) f (FG U);simpa using Fa h2 (Bg.setCell (b:=sb) w2 (p:=⟨sb,o+1,none⟩) rfl _) M.symm
   ·have W:=z.size;have h:=f.size;simp at W h;have k1:A3 (fun q=>q=sb\/AN (.map none)=some q\/(Value.slice ao 0 cap).ownBlock=some q) w w1:=(((A3.ab B).setCell (p:=⟨sb,o,none⟩) (.inl (.inl rfl)) _).alloc _).drew.grown z (fun q hq=>.inr (by simp at hq;omega));refine⟨((k1.alloc _).drew.grown f (fun q hq=>.inl (.inr (.inr hq)))).setCell (p:=⟨sb,o+1,none⟩) (.inl (.inl rfl)) _,.inr (fun q hq=>by simp[AN]at hq;omega),?_⟩;rcases E with S|S
    ·exact .inl S
    ·exact .inr (fun q hq=>by simp[Value.ownBlock]at hq;simp at S;omega)
 ·obtain⟨hh,ha⟩:=hD.2 k O;rw[A5 hx]at hh;have q3:=fun w:World=>DX (P:=prog) w 261 221 3 (some r) underlying261;have z8:(Lit.int .i64 (xs.length:Int)).wf=true:=Hg (n:=(xs.length:Int)) ⟨by omega,by omega⟩;clear hx c0;go_enter func229,ntmps229;go_wp2_with (go_at_call 232;refine hF.mono ?_;rintro e w9 ⟨rfl,m⟩;have y:=(L.alloc (.cells #[.int .i64 k.a,.int .i64 k.b,.int .i64 k.c] 221)).below m;have J:=(hS.alloc (.cells #[.int .i64 k.a,.int .i64 k.b,.int .i64 k.c] 221)).below m;have d:Aw w9 w.heap.size (Bh k) 221:=(Aw.new w (Bh k) 221).below m;have B:=R.trans (m.mono R.size);have z4:=B.size;have j5:=d.lt;have q5:=y.lt;have f0:=y.frozen;have y0:w9.cell? ⟨w.heap.size,0,none⟩=some (.int .i64 k.a):=d.cell 0;have y1:w9.cell? ⟨w.heap.size,1,none⟩=some (.int .i64 k.b):=d.cell 1;have y2:w9.cell? ⟨w.heap.size,2,none⟩=some (.int .i64 k.c):=d.cell 2;have g0:w9.cell? ⟨sb,o,none⟩=some (.map (some r)):=(y.cell o).trans I;have g1:w9.cell? ⟨sb,o+1,none⟩=some (.slice ao xs.length cap):=(y.cell (o+1)).trans h1);have i:=Fy (q4.alloc (.cells #[.int .i64 k.a,.int .i64 k.b,.int .i64 k.c] 221)) m;have q6:=E9 i y;have j6:=E9 i d;have U:=Iw i J.1;obtain⟨w1,z3,Q,z⟩:=KK (w:=w9.drew) (by exact i) fV underlying261 (by unfold maxLen;omega) C (C2 underlying3 (a:=(xs.length:Int)) z8);have v:=y.drew.grown z (by simpa using q6.symm);have s:=d.drew.grown z (by simpa using j6.symm);have Y:w1.ownsRow base 221 3 (.slice ao xs.length cap) xs.length (xs.flatMap fun k=>(Bh k)):=L5 (by exact J.1) z (.inr U);have d1:w1.cell? ⟨sb,o+1,none⟩=some (.slice ao xs.length cap):=(v.cell (o+1)).trans h1;have fB:=v.frozen;have j9:=v.lt;have H:=s.lt;have z0:w1.cell? ⟨w.heap.size,0,none⟩=some (.int .i64 k.a):=s.cell 0;have z1:w1.cell? ⟨w.heap.size,1,none⟩=some (.int .i64 k.b):=s.cell 1;have z2:w1.cell? ⟨w.heap.size,2,none⟩=some (.int .i64 k.c):=s.cell 2;go_region;have K:(w1.alloc (.cells #[.int .i64 k.a,.int .i64 k.b,.int .i64 k.c] 221)).drew.ownsRow base 221 3 (.slice ao xs.length cap) xs.length (xs.flatMap fun k=>(Bh k)):=(by exact Y.alloc _);have l:∀j u,((Bh k))[j]? =some u->(w1.alloc (.cells #[.int .i64 k.a,.int .i64 k.b,.int .i64 k.c] 221)).drew.cell? ((⟨w1.heap.size,0,none⟩:Addr).add j)=some u:=(by exact AS w1 (Bh k) 221);have G:∀u∈(Bh k),u.oneCell'=true:=(by intro u hu;simp[Bh]at hu;rcases hu with rfl|rfl|rfl<;>rfl);have N:base<=(w1.alloc (.cells #[.int .i64 k.a,.int .i64 k.b,.int .i64 k.c] 221)).drew.heap.size:=by have:=z.size;simp at this;simp;omega
  go_wp2_with fail
  go_region_law (refine CP _ rfl (.tmp 41) (.tmp 43) 262 rfl base 221 i1 _ 3 24 underlying262 q2 q8 q9 j0 rfl (by decide) (.slice ao xs.length cap) xs.length (xs.flatMap fun k=>(Bh k)) (by simp[Act.eval]) K ⟨w1.heap.size,0,none⟩ 1 1 (Bh k) (by simp[Act.eval]) (by decide) rfl l G (by unfold maxLen;omega) (by omega) N ?_;intro g Z w2 V f E;have x:=(v.alloc (.cells #[.int .i64 k.a,.int .i64 k.b,.int .i64 k.c] 221)).drew.grown f (Av Y v ht);have e1:w2.cell? ⟨sb,o+1,none⟩=some (.slice ao xs.length cap):=((x.cell (o+1)).trans h1);have j1:=x.frozen)
  all_goals
   go_wp2_with fail;go_ret2;have q0:=z.size;have q1:=f.size;simp at q0 q1;have z7:cs.set o (.map (some r))=cs:=by obtain⟨y4,j7⟩:=List.getElem?_eq_some_iff.1 I;rw[<-j7,Dh]
   refine⟨rfl,.map (some r),.slice (some ⟨g,0,none⟩) (xs.length+1) Z,by rw[z7];exact x.setCell (o+1) _,⟨?_,q7,.inr ⟨r,_,rfl,hr,?_,hD.put k O HX.out⟩⟩,?_⟩
   ·rw[j8];simpa using AJ V ⟨sb,o+1,none⟩ _ (Av V x ht)
   ·have h2:=L6 (w:=(w1.alloc (.cells #[.int .i64 k.a,.int .i64 k.b,.int .i64 k.c] 221)).drew) (by exact Q.alloc _) f (FG U);simpa using Fa h2 (Bg.setCell (b:=sb) w2 (p:=⟨sb,o+1,none⟩) rfl _) q6.symm
   ·have k1:A3 (fun q=>q=sb\/AN (.map (some r))=some q\/(Value.slice ao xs.length cap).ownBlock=some q) w w1:=(A3.ab B).drew.grown z (fun q hq=>.inl (.inr (.inl hq)));refine⟨((k1.alloc _).drew.grown f (fun q hq=>.inl (.inr (.inr hq)))).setCell (p:=⟨sb,o+1,none⟩) (.inl (.inl rfl)) _,.inl rfl,?_⟩;rcases E with S|S
    ·exact .inl S
    ·exact .inr (fun q hq=>by simp[Value.ownBlock]at hq;simp at S;omega)
theorem iK(w:World)(base sb o:Nat)(cs:List Value)(t:TypeId)(mv lv:Value)(xs:List R3)(k:R3)(y:Aw w sb cs t)(z:cs[o]? =some mv)(h1:cs[o+1]? =some lv)(hS:Dv w base mv lv xs)(u:k.Wf)(hn:xs.length<=1000000000000)(ht:t≠221)(v:base<=w.heap.size):
 Calls prog 229 #[.pointer (some ⟨sb,o,none⟩),(.agg #[.int .i64 k.a,.int .i64 k.b,.int .i64 k.c])] w fun e w'=>e=.returned (.tuple #[.int .i64 (Ci (CO xs k) k:Nat),.bool (decide (k∉xs))])/\
  ∃q lv',Aw w' sb ((cs.set o q).set (o+1) lv') t/\Dv w' base q lv' (CO xs k)/\Cs w w' sb mv lv q lv':=by
 by_cases hx:k∈xs
 ·refine(iD w base sb o mv lv xs k ((y.cell o).trans z) hS u hx).mono ?_;rintro e w' ⟨rfl,j⟩;refine⟨by simp[CO,hx],mv,lv,?_,?_,Cs.still j sb mv lv⟩
  ·rw[Nr cs o mv lv z h1];exact y.below j
  ·rw[CO,Ai hx];exact hS.below j
 ·refine(iH w base sb o cs t mv lv xs k y z h1 hS u hx hn ht v).mono ?_;rintro e w' ⟨rfl,q,lv',a,b,c⟩;refine⟨?_,q,lv',a,?_,c⟩
  ·rw[CO,Af hx,Gd xs k hx];simp[hx]
  ·rw[CO,Af hx];exact b
end
section
attribute [local go_sem] AE As
open Go.RowKit Go.WideMaps Go.Maps
def Lf(D:DataW Unit)(xs:List Nat):Prop:=
 IsMap D/\∀k:Nat,k<=1000000000000000->Maps.has D (Mn k)=decide (k∈xs)/\D.atKey (Mn k) (.lit (.int .i64 0))=.lit (.int .i64 (Ci xs k))
theorem Lf.nil:Lf (.map []) []:=⟨isMap_empty,fun _ _=>⟨rfl,rfl⟩⟩
theorem Lf.put{D:DataW Unit}{xs:List Nat}(h:Lf D xs)(k:Nat)(u:k<=1000000000000000)(v:k∉xs):Lf (D.put (Mn k) (.lit (.int .i64 xs.length))) (xs++[k]):=by
 refine⟨h.1.put _ _,fun j y=>?_⟩;by_cases z:j=k
 ·subst z;rw[has_put_same h.1 (mI j),atKey_put_same h.1 (mI j),Gd xs j v];exact⟨by simp,rfl⟩
 ·have q:(Mn j)≠(Mn k):=fun e=>z (nP j k y u e);rw[has_put_other q,atKey_put_other q,(h.2 j y).1,(h.2 j y).2,Lz xs k j z];exact⟨by simp[z],rfl⟩
def DE(w:World)(base:Nat)(mv lv:Value)(xs:List Nat):Prop:=
 w.ownsRow base 3 1 lv xs.length (xs.flatMap fun k=>[Value.int .i64 (k:Nat)])/\(∀k∈xs,k<=1000000000000000)/\
 ((mv=.map none/\xs=[])\/∃r D,mv=.map (some r)/\base<=r/\w.ownsMap (H:=Unit) prog 3 (plainElem prog 3) r xs.length D/\Lf D xs)
theorem DE.nil(w:World)(base:Nat):DE w base (.map none) (.slice none 0 0) []:=⟨Ak _ _ _ _,by simp,.inl ⟨rfl,rfl⟩⟩
theorem DE.below{base:Nat}{w w':World}{mv lv:Value}{xs:List Nat}(h:DE w base mv lv xs)(hb:Below w.heap.size w w'):DE w' base mv lv xs:=by
 refine⟨Ah h.1 hb,h.2.1,?_⟩;rcases h.2.2 with h2|⟨r,D,j,y,z,q⟩
 ·exact .inl h2
 ·exact .inr ⟨r,D,j,y,Fy z hb,q⟩
theorem DE.only{S:Nat->Prop}{base:Nat}{w w':World}{mv lv:Value}{xs:List Nat}(h:DE w base mv lv xs)(j:A3 S w w')(y:∀q,lv.ownBlock=some q->¬S q)(k:∀q,AN mv=some q->¬S q):DE w' base mv lv xs:=by
 refine⟨BI h.1 j y,h.2.1,?_⟩;rcases h.2.2 with h2|⟨r,D,rfl,v,u,z⟩
 ·exact .inl h2
 ·exact .inr ⟨r,D,rfl,v,LB u j (k r rfl),z⟩
theorem DE.lt{base:Nat}{w:World}{mv lv:Value}{xs:List Nat}(h:DE w base mv lv xs):(∀q,lv.ownBlock=some q->base<=q/\q<w.heap.size)/\∀q,AN mv=some q->base<=q/\q<w.heap.size:=by
 refine⟨fun q hq=>h.1.lt q hq,?_⟩;rcases h.2.2 with⟨rfl,_⟩|⟨r,D,rfl,j,z,hD⟩
 ·intro q hq;simp[AN]at hq
 ·intro q hq;simp only[AN,Al]at hq;subst hq;exact⟨j,z.lt⟩
theorem DE.alloc{base:Nat}{w:World}{mv lv:Value}{xs:List Nat}(h:DE w base mv lv xs)(o:Obj):DE (w.alloc o) base mv lv xs:=h.below (Ac w o)
theorem RB(w:World)(base sb o:Nat)(mv lv:Value)(xs:List Nat)(k:Nat)(t:w.cell? ⟨sb,o,none⟩=some mv)(hS:DE w base mv lv xs)(b:k<=1000000000000000):
 Calls prog 220 #[.pointer (some ⟨sb,o,none⟩),(.int .i64 (k:Nat))] w fun e w'=>e=.returned (.tuple #[.int .i64 (Ci xs k:Nat),.bool (decide (k∈xs))])/\Below w.heap.size w w':=by
 have q:keyOf prog 3 (.int .i64 (k:Nat))=some (Mn k):=Z6 k b;have q1:=FX t;have z:=Ag w.heap.size w;have y:=Ac w (.cells #[.int .i64 (k:Nat)] 3);rcases hS.2.2 with⟨rfl,rfl⟩|⟨r,D,rfl,hr,j,m⟩
 ·have q0:=fun w:World=>look_nil (w:=w) true fX underlying288 (KO w) q;go_enter func220,ntmps220;go_wp2;go_ret2;exact⟨rfl,by first|exact z|exact y.drew⟩
 ·obtain⟨n,g⟩:=m.2 k b;obtain⟨p,d⟩:∃p:Int,Hid (p=(Ci xs k:Nat)):=⟨_,rfl⟩;rw[<-d.out]at g⊢;have look:∀W:World,W.ownsMap (H:=Unit) prog 3 (plainElem prog 3) r xs.length D->(Instr.lookup 288 (.map (some r)) (.int .i64 (k:Nat)) true).run prog W=.ok (.tuple #[.int .i64 p,.bool (decide (k∈xs))]) W:=by intro W hW;obtain⟨v,ps,u,hR⟩:=hW.look_ok fX underlying288 (KO W) (C2 underlying3 (by decide)) q;obtain⟨c,rfl,hc,_⟩:=No underlying3 hR;have e:=Bl Prod.fst hc;simp only[]at e;rw[g]at e;simp at e;rw[u,n,<-e]
  have l0:=look w j;have l1:=look (w.alloc (.cells #[.int .i64 (k:Nat)] 3)).drew (by exact j.alloc _);clear look;go_enter func220,ntmps220;go_wp2;go_ret2;exact⟨rfl,by first|exact z|exact y.drew⟩
theorem ZZ(w:World)(base sb o:Nat)(mv lv:Value)(xs:List Nat)(c1:w.cell? ⟨sb,o+1,none⟩=some lv)(hS:DE w base mv lv xs):
 Calls prog 200 #[.pointer (some ⟨sb,o,none⟩)] w fun e w'=>e=.returned (.int .i64 xs.length)/\w'=w:=by
 obtain⟨ao,cap,rfl⟩:=Au hS.1;go_enter func200,ntmps200;go_wp2
 go_ret
 exact⟨rfl,rfl⟩
theorem iE(w:World)(base sb o:Nat)(mv lv:Value)(xs:List Nat)(k:Nat)(v:w.cell? ⟨sb,o,none⟩=some mv)(hS:DE w base mv lv xs)(b:k<=1000000000000000)(hx:k∈xs):
 Calls prog 199 #[.pointer (some ⟨sb,o,none⟩),(.int .i64 (k:Nat))] w fun e w'=>e=.returned (.tuple #[.int .i64 (Ci xs k),.bool false])/\Below w.heap.size w w':=by
 obtain⟨p,g⟩:∃p:Int,Hid (p=(Ci xs k:Nat)):=⟨_,rfl⟩;have u:=FX v;have q:=Ac w (.cells #[.int .i64 (k:Nat)] 3);have z:=RB w base sb o mv lv xs k v hS b;have y:=RB (w.alloc (.cells #[.int .i64 (k:Nat)] 3)) base sb o mv lv xs k (by rw[q.cell (p:=⟨sb,o,none⟩) u];exact v) (hS.alloc _) b;rw[Bq hx,<-g.out]at z y;rw[<-g.out];go_enter func199,ntmps199;go_wp2_with (go_at_call 220;first|(refine z.mono ?_;rintro e w9 ⟨rfl,j⟩)|(refine y.mono ?_;rintro e w9 ⟨rfl,j⟩));go_ret2;exact⟨rfl,by first|exact j|exact q.trans (j.mono q.size)⟩
theorem iI(w:World)(base sb o:Nat)(cs:List Value)(t:TypeId)(mv lv:Value)(xs:List Nat)(k:Nat)(hB:Aw w sb cs t)(h:cs[o]? =some mv)(h1:cs[o+1]? =some lv)(hS:DE w base mv lv xs)(G:k<=1000000000000000)(hx:k∉xs)(hn:xs.length<=1000000000000)(ht:t≠3)(j1:base<=w.heap.size):
 Calls prog 199 #[.pointer (some ⟨sb,o,none⟩),(.int .i64 (k:Nat))] w fun e w'=>e=.returned (.tuple #[.int .i64 xs.length,.bool true])/\
  ∃U lv',Aw w' sb ((cs.set o U).set (o+1) lv') t/\DE w' base U lv' (xs++[k])/\Cs w w' sb mv lv U lv':=by
 have c0:w.cell? ⟨sb,o,none⟩=some mv:=(hB.cell o).trans h;have j4:o+1<cs.length:=(List.getElem?_eq_some_iff.1 h1).1;have J:keyOf prog 3 (.int .i64 (k:Nat))=some (Mn k):=Z6 k G;obtain⟨i1,M,I,L,W⟩:=Bc mM;obtain⟨pp,HP⟩:∃p:Int,Hid (p=(Ci xs k:Nat)):=⟨_,rfl⟩;have hF:=RB w base sb o mv lv xs k c0 hS G;rw[A5 hx,<-HP.out]at hF;obtain⟨ao,cap,rfl⟩:=Au hS.1
 have O:∀j∈xs++[k],j<=1000000000000000:=by
  intro j hj;rw[Bi,A7]at hj;rcases hj with hj|rfl
  ·exact hS.2.1 j hj
  ·exact G
 have q4:((xs++[k]).flatMap fun k=>[Value.int .i64 (k:Nat)])=(xs.flatMap fun k=>[Value.int .i64 (k:Nat)])++[Value.int .i64 (k:Nat)]:=by simp
 have HX:=Ao hx;rcases hS.2.2 with⟨rfl,rfl⟩|⟨r,D,rfl,hr,X,hD⟩
 ·have N:=fun w:World=>DX (P:=prog) w 288 3 3 none underlying288;have j3:=@run_makeMap prog;clear hx c0;go_enter func199,ntmps199;go_wp2_with (first|(go_at_call 220;refine hF.mono ?_;rintro e w9 ⟨rfl,d⟩;have z:=hB.below d;have f:=hS.below d;have q6:=d.size;have g0:w9.cell? ⟨sb,o,none⟩=some (.map none):=(z.cell o).trans h;have g1:w9.cell? ⟨sb,o+1,none⟩=some (.slice ao 0 cap):=(z.cell (o+1)).trans h1;have S:=z.lt;have f0:=z.frozen;have Z:sb≠w9.heap.size:=(by omega);have Y:((w9.setCell ⟨sb,o,none⟩ (.map (some w9.heap.size))).alloc (.map #[] 0)).ownsMap (H:=Unit) prog 3 (plainElem prog 3) w9.heap.size 0 (.map []):=(Nw _ _ _ _);have q1:Aw ((w9.setCell ⟨sb,o,none⟩ (.map (some w9.heap.size))).alloc (.map #[] 0)) sb (cs.set o (.map (some w9.heap.size))) t:=(z.setCell o (.map (some w9.heap.size))).alloc (.map #[] 0);have Q:=Hp f.1 (k:=w9.heap.size) (Ab _);have q2:=(AJ f.1 ⟨sb,o,none⟩ (.map (some w9.heap.size)) (Av f.1 z ht)).alloc (.map #[] 0))|(at_mapUpdate;refine Fo _ rfl _ _ _ 288 rfl 3 3 fX underlying288 _ w9.heap.size 0 (.map []) rfl Y (by unfold maxLen;omega) _ _ _ rfl rfl J _ [] (C2 underlying3 (by decide)) ?_;intro w1 x v;have y:=q1.grown v (by simpa using Z.symm);have i:=q2.kept v (.inr Q);have d0:w1.cell? ⟨sb,o,none⟩=some (.map (some w9.heap.size)):=(by rw[y.cell o,CD (by omega)]);have d1:w1.cell? ⟨sb,o+1,none⟩=some (.slice ao 0 cap):=(by rw[y.cell (o+1),CB (by omega)];exact h1);have fB:=y.frozen;have q5:=y.lt)|(at_builtin;refine Bv _ rfl _ _ 97 rfl base 3 i1 _ 1 8 underlying97 M I L W rfl (by decide) _ 0 [] rfl (i.alloc _) ⟨w1.heap.size,0,none⟩ 1 1 [Value.int .i64 (k:Nat)] rfl (by decide) rfl (AS _ _ _) (by intro u A;simp at A;subst A;rfl) (by unfold maxLen;omega) (by omega) (by have:=v.size;simp at this;simp;omega) ?_;intro g a w2 l m V;have c:=(y.alloc _).grown m (Av i y ht);have e1:w2.cell? ⟨sb,o+1,none⟩=some (.slice ao 0 cap):=(by rw[c.cell (o+1),CB (by omega)];exact h1);have q0:=c.frozen));go_ret2;have j0:base<=w1.heap.size:=by have:=v.size;simp at this;omega
  refine⟨rfl,.map (some w9.heap.size),.slice (some ⟨g,0,none⟩) 1 a,c.setCell (o+1) _,⟨?_,O,.inr ⟨w9.heap.size,_,rfl,by omega,?_,Lf.nil.put k G HX.out⟩⟩,?_⟩
  ·simpa using AJ l ⟨sb,o+1,none⟩ _ (Av l c ht)
  ·have h2:=(x.alloc _).kept m (FG Q);simpa using Fa h2 (Bg.setCell (b:=sb) w2 (p:=⟨sb,o+1,none⟩) rfl _) Z.symm
  ·have B:=v.size;have R:=m.size;simp at B R;have k1:A3 (fun q=>q=sb\/AN (.map none)=some q\/(Value.slice ao 0 cap).ownBlock=some q) w w1:=(((A3.ab d).setCell (p:=⟨sb,o,none⟩) (.inl (.inl rfl)) _).alloc _).grown v (fun q hq=>.inr (by simp at hq;omega));refine⟨((k1.alloc _).grown m (fun q hq=>.inl (.inr (.inr hq)))).setCell (p:=⟨sb,o+1,none⟩) (.inl (.inl rfl)) _,.inr (fun q hq=>by simp[AN]at hq;omega),?_⟩;rcases V with K|K
   ·exact .inl K
   ·exact .inr (fun q hq=>by simp[Value.ownBlock]at hq;simp at K;omega)
 ·obtain⟨hh,ha⟩:=hD.2 k G;rw[A5 hx]at hh;have N:=fun w:World=>DX (P:=prog) w 288 3 3 (some r) underlying288;have q8:(Lit.int .i64 (xs.length:Int)).wf=true:=Hg (n:=(xs.length:Int)) ⟨by omega,by omega⟩;clear hx c0;go_enter func199,ntmps199;go_wp2_with (first|(go_at_call 220;refine hF.mono ?_;rintro e w9 ⟨rfl,d⟩;have z:=hB.below d;have f:=hS.below d;have q6:=d.size;have g0:w9.cell? ⟨sb,o,none⟩=some (.map (some r)):=(z.cell o).trans h;have g1:w9.cell? ⟨sb,o+1,none⟩=some (.slice ao xs.length cap):=(z.cell (o+1)).trans h1;have S:=z.lt;have f0:=z.frozen;have s:=Fy X d;have E:=E9 s z;have Q:=Iw s f.1)|(at_mapUpdate;refine Fo _ rfl _ _ _ 288 rfl 3 3 fX underlying288 _ r xs.length D rfl s (by unfold maxLen;omega) _ _ _ rfl rfl J _ [] (C2 underlying3 q8) ?_;intro w1 x v;have y:=z.grown v (by simpa using E.symm);have i:=f.1.kept v (.inr Q);have d1:w1.cell? ⟨sb,o+1,none⟩=some (.slice ao xs.length cap):=((y.cell (o+1)).trans h1);have fB:=y.frozen;have q5:=y.lt)|(at_builtin;refine Bv _ rfl _ _ 97 rfl base 3 i1 _ 1 8 underlying97 M I L W rfl (by decide) _ xs.length _ rfl (i.alloc _) ⟨w1.heap.size,0,none⟩ 1 1 [Value.int .i64 (k:Nat)] rfl (by decide) rfl (AS _ _ _) (by intro u A;simp at A;subst A;rfl) (by unfold maxLen;omega) (by omega) (by have:=v.size;simp;omega) ?_;intro g a w2 l m V;have c:=(y.alloc _).grown m (Av i y ht);have e1:w2.cell? ⟨sb,o+1,none⟩=some (.slice ao xs.length cap):=((c.cell (o+1)).trans h1);have q0:=c.frozen));go_ret2;have q9:=v.size;have C:=m.size;simp at C;have q7:cs.set o (.map (some r))=cs:=by obtain⟨j2,q3⟩:=List.getElem?_eq_some_iff.1 h;rw[<-q3,Dh]
  refine⟨rfl,.map (some r),.slice (some ⟨g,0,none⟩) (xs.length+1) a,by rw[q7];exact c.setCell (o+1) _,⟨?_,O,.inr ⟨r,_,rfl,hr,?_,hD.put k G HX.out⟩⟩,?_⟩
  ·rw[q4];simpa using AJ l ⟨sb,o+1,none⟩ _ (Av l c ht)
  ·have h2:=(x.alloc _).kept m (FG Q);simpa using Fa h2 (Bg.setCell (b:=sb) w2 (p:=⟨sb,o+1,none⟩) rfl _) E.symm
  ·have k1:A3 (fun q=>q=sb\/AN (.map (some r))=some q\/(Value.slice ao xs.length cap).ownBlock=some q) w w1:=(A3.ab d).grown v (fun q hq=>.inl (.inr (.inl hq)));refine⟨((k1.alloc _).grown m (fun q hq=>.inl (.inr (.inr hq)))).setCell (p:=⟨sb,o+1,none⟩) (.inl (.inl rfl)) _,.inl rfl,?_⟩;rcases V with K|K
   ·exact .inl K
   ·exact .inr (fun q hq=>by simp[Value.ownBlock]at hq;simp at K;omega)
theorem iL(w:World)(base sb o:Nat)(cs:List Value)(t:TypeId)(mv lv:Value)(xs:List Nat)(k:Nat)(y:Aw w sb cs t)(z:cs[o]? =some mv)(h1:cs[o+1]? =some lv)(hS:DE w base mv lv xs)(u:k<=1000000000000000)(hn:xs.length<=1000000000000)(ht:t≠3)(v:base<=w.heap.size):
 Calls prog 199 #[.pointer (some ⟨sb,o,none⟩),(.int .i64 (k:Nat))] w fun e w'=>e=.returned (.tuple #[.int .i64 (Ci (CO xs k) k:Nat),.bool (decide (k∉xs))])/\
  ∃q lv',Aw w' sb ((cs.set o q).set (o+1) lv') t/\DE w' base q lv' (CO xs k)/\Cs w w' sb mv lv q lv':=by
 by_cases hx:k∈xs
 ·refine(iE w base sb o mv lv xs k ((y.cell o).trans z) hS u hx).mono ?_;rintro e w' ⟨rfl,j⟩;refine⟨by simp[CO,hx],mv,lv,?_,?_,Cs.still j sb mv lv⟩
  ·rw[Nr cs o mv lv z h1];exact y.below j
  ·rw[CO,Ai hx];exact hS.below j
 ·refine(iI w base sb o cs t mv lv xs k y z h1 hS u hx hn ht v).mono ?_;rintro e w' ⟨rfl,q,lv',a,b,c⟩;refine⟨?_,q,lv',a,?_,c⟩
  ·rw[CO,Af hx,Gd xs k hx];simp[hx]
  ·rw[CO,Af hx];exact b
theorem Oq(a b c:Int)(w:World):(Instr.index 221 (.agg #[.int .i64 a,.int .i64 b,.int .i64 c]) (.int .i64 0)).run prog w=.ok (.int .i64 a) w:=by kernel_rfl
theorem Oo(a b c:Int)(w:World):(Instr.index 221 (.agg #[.int .i64 a,.int .i64 b,.int .i64 c]) (.int .i64 1)).run prog w=.ok (.int .i64 b) w:=by kernel_rfl
theorem On(a b c:Int)(w:World):(Instr.index 221 (.agg #[.int .i64 a,.int .i64 b,.int .i64 c]) (.int .i64 2)).run prog w=.ok (.int .i64 c) w:=by kernel_rfl
def Cb(v o t:Int):Int:=if t=v then o else t
def R3.swap(r:R3)(v o:Int):R3:=⟨Cb v o r.a,Cb v o r.b,Cb v o r.c⟩
def R3.ak(r:R3)(v o:Int)(i:Nat):R3:=⟨if 0<i then Cb v o r.a else r.a,if 1<i then Cb v o r.b else r.b,if 2<i then Cb v o r.c else r.c⟩
theorem Ft(w:World)(t:Int):Calls prog 225 #[.int .i64 t] w fun e w'=>e=.returned (.bool (decide (t<0)))/\w'=w:=by
 by_cases h:t<0
 ·go_enter func225,ntmps225;go_wp2_with fail
  go_ret
  exact⟨by simp[h],rfl⟩
 ·go_enter func225,ntmps225;go_wp2_with fail
  go_ret
  exact⟨by simp[h],rfl⟩
theorem Mb(w:World)(r:R3)(v o:Int):Calls prog 231 #[.agg #[.int .i64 r.a,.int .i64 r.b,.int .i64 r.c],.int .i64 v,.int .i64 o] w fun e w'=>e=.returned (.agg #[.int .i64 (r.swap v o).a,.int .i64 (r.swap v o).b,.int .i64 (r.swap v o).c])/\Below w.heap.size w w':=by
 have g:=(Aw.new w (Bh r) 221).alloc (.cells #[.int .i64 0,.int .i64 0,.int .i64 0] 221);have y:=Aw.new (w.alloc (.cells #[.int .i64 r.a,.int .i64 r.b,.int .i64 r.c] 221)) [.int .i64 0,.int .i64 0,.int .i64 0] 221;rw[show(w.alloc (.cells #[.int .i64 r.a,.int .i64 r.b,.int .i64 r.c] 221)).heap.size=w.heap.size+1 by simp]at y;have u:=((Ag w.heap.size w).alloc (Ab _) (.cells #[.int .i64 r.a,.int .i64 r.b,.int .i64 r.c] 221)).alloc (by simp) (.cells #[.int .i64 0,.int .i64 0,.int .i64 0] 221);have i0:=Oq r.a r.b r.c;have i1:=Oo r.a r.b r.c;have i2:=On r.a r.b r.c;go_enter func231,ntmps231;go_wp2_with fail
 go_loopw [10] (fun t wr=>∃(i:Nat),i<=3/\t=.int .i64 i/\Aw wr w.heap.size (Bh (r.ak v o i)) 221/\Aw wr (w.heap.size+1) [.int .i64 0,.int .i64 0,.int .i64 0] 221/\Below w.heap.size w wr) (fun t _=>3-(intOf t).toNat)
 case atStart=>exact⟨0,by omega,rfl,g,y,u⟩
 case round=>
  clear g y u;obtain⟨i,hi,rfl,hR,q,z⟩:=hrel;have fR:=hR.frozen;have fO:=q.frozen;have q1:=hR.lt;have q0:=q.lt;by_cases q2:i<3
  ·rcases(show i=0\/i=1\/i=2 by omega) with k|k|k
   ·subst k;rw[show((0:Nat):Int)=0 from rfl];have m:wr.cell? ⟨w.heap.size,0,none⟩=some (.int .i64 r.a):=hR.cell 0;by_cases j:r.a=v
    ·subst j;go_wp2_with fail;refine⟨⟨1,by omega,rfl,?_,q.setOther ⟨w.heap.size,0,none⟩ _ (by simp),z.setCell (p:=⟨w.heap.size,0,none⟩) (Ab _) _⟩,by simp[intOf]⟩;have h:=hR.setCell 0 (.int .i64 o);have e:(Bh (r.ak r.a o 0)).set 0 (.int .i64 o)=Bh (r.ak r.a o 1):=by simp[Bh,R3.ak,Cb]
     rw[e]at h;exact h
    ·have hb:(r.a==v)=false:=by simpa using j
     go_wp2_with fail;refine⟨⟨1,by omega,rfl,?_,q,z⟩,by simp[intOf]⟩;have e:Bh (r.ak v o 0)=Bh (r.ak v o 1):=by simp[Bh,R3.ak,Cb,j]
     rw[e]at hR;exact hR
   ·subst k;rw[show((1:Nat):Int)=1 from rfl];have n:wr.cell? ⟨w.heap.size,1,none⟩=some (.int .i64 r.b):=hR.cell 1;by_cases j:r.b=v
    ·subst j;go_wp2_with fail;refine⟨⟨2,by omega,rfl,?_,q.setOther ⟨w.heap.size,1,none⟩ _ (by simp),z.setCell (p:=⟨w.heap.size,1,none⟩) (Ab _) _⟩,by simp[intOf]⟩;have h:=hR.setCell 1 (.int .i64 o);have e:(Bh (r.ak r.b o 1)).set 1 (.int .i64 o)=Bh (r.ak r.b o 2):=by simp[Bh,R3.ak,Cb]
     rw[e]at h;exact h
    ·have hb:(r.b==v)=false:=by simpa using j
     go_wp2_with fail;refine⟨⟨2,by omega,rfl,?_,q,z⟩,by simp[intOf]⟩;have e:Bh (r.ak v o 1)=Bh (r.ak v o 2):=by simp[Bh,R3.ak,Cb,j]
     rw[e]at hR;exact hR
   ·subst k;rw[show((2:Nat):Int)=2 from rfl];have x:wr.cell? ⟨w.heap.size,2,none⟩=some (.int .i64 r.c):=hR.cell 2;by_cases j:r.c=v
    ·subst j;go_wp2_with fail;refine⟨⟨3,by omega,rfl,?_,q.setOther ⟨w.heap.size,2,none⟩ _ (by simp),z.setCell (p:=⟨w.heap.size,2,none⟩) (Ab _) _⟩,by simp[intOf]⟩;have h:=hR.setCell 2 (.int .i64 o);have e:(Bh (r.ak r.c o 2)).set 2 (.int .i64 o)=Bh (r.ak r.c o 3):=by simp[Bh,R3.ak,Cb]
     rw[e]at h;exact h
    ·have hb:(r.c==v)=false:=by simpa using j
     go_wp2_with fail;refine⟨⟨3,by omega,rfl,?_,q,z⟩,by simp[intOf]⟩;have e:Bh (r.ak v o 2)=Bh (r.ak v o 3):=by simp[Bh,R3.ak,Cb,j]
     rw[e]at hR;exact hR
  ·have d:i=3:=by omega
   subst d;rw[show((3:Nat):Int)=3 from rfl];have m:wr.cell? ⟨w.heap.size,0,none⟩=some (.int .i64 (r.swap v o).a):=hR.cell 0;have n:wr.cell? ⟨w.heap.size,1,none⟩=some (.int .i64 (r.swap v o).b):=hR.cell 1;have x:wr.cell? ⟨w.heap.size,2,none⟩=some (.int .i64 (r.swap v o).c):=hR.cell 2;have s:wr.cell? ⟨w.heap.size+1,0,none⟩=some (.int .i64 0):=q.cell 0;have f:wr.cell? ⟨w.heap.size+1,1,none⟩=some (.int .i64 0):=q.cell 1;have l:wr.cell? ⟨w.heap.size+1,2,none⟩=some (.int .i64 0):=q.cell 2;go_wp2_with fail;refine Aq (v:=.agg #[.int .i64 (r.swap v o).a,.int .i64 (r.swap v o).b,.int .i64 (r.swap v o).c]) (by simp[results,results231,go_sem,s,f,l]) rfl ⟨rfl,?_⟩;refine AQ (AQ (AQ z ?_ _) ?_ _) ?_ _<;>simp
structure Dq where
 h:A4
 b0:A4
 b1:A4
 b2:A4
 b3:A4
 pos:Nat
 bj:Nat
def AG(r:Dq):List Value:=[.int .i64 r.h.n,.int .i64 r.h.r.a,.int .i64 r.h.r.b,.int .i64 r.h.r.c,.int .i64 r.b0.n,.int .i64 r.b0.r.a,.int .i64 r.b0.r.b,.int .i64 r.b0.r.c,.int .i64 r.b1.n,.int .i64 r.b1.r.a,.int .i64 r.b1.r.b,.int .i64 r.b1.r.c,.int .i64 r.b2.n,.int .i64 r.b2.r.a,.int .i64 r.b2.r.b,.int .i64 r.b2.r.c,.int .i64 r.b3.n,.int .i64 r.b3.r.a,.int .i64 r.b3.r.b,.int .i64 r.b3.r.c,.int .i64 (r.pos:Nat),.int .i64 (r.bj:Nat)]
def A4.swap(x:A4)(v o:Int):A4:=⟨x.n,x.r.swap v o⟩
def Dq.ak(r:Dq)(v o:Int)(i:Nat):Dq:=⟨r.h.swap v o,if 0<i then r.b0.swap v o else r.b0,if 1<i then r.b1.swap v o else r.b1,if 2<i then r.b2.swap v o else r.b2,if 3<i then r.b3.swap v o else r.b3,r.pos,r.bj⟩
def Dq.swap(r:Dq)(v o:Int):Dq:=r.ak v o r.bj
theorem Mk(q:Dq):(AG q).toArray.all (fun x=>x.oneCell')=true:=by simp[AG,Value.oneCell']
theorem Et:(prog.info? 226).map (fun i=>i.size)=some 22:=by kernel_rfl
theorem bV(r:Dq)(v o:Int):(((AG r).set 1 (.int .i64 (r.h.r.swap v o).a)).set 2 (.int .i64 (r.h.r.swap v o).b)).set 3 (.int .i64 (r.h.r.swap v o).c)=AG (r.ak v o 0):=by simp[AG,Dq.ak,A4.swap]
theorem Yw(r:Dq)(v o:Int):(((AG (r.ak v o 0)).set 5 (.int .i64 (r.b0.r.swap v o).a)).set 6 (.int .i64 (r.b0.r.swap v o).b)).set 7 (.int .i64 (r.b0.r.swap v o).c)=AG (r.ak v o 1):=by simp[AG,Dq.ak,A4.swap]
theorem Yv(r:Dq)(v o:Int):(((AG (r.ak v o 1)).set 9 (.int .i64 (r.b1.r.swap v o).a)).set 10 (.int .i64 (r.b1.r.swap v o).b)).set 11 (.int .i64 (r.b1.r.swap v o).c)=AG (r.ak v o 2):=by simp[AG,Dq.ak,A4.swap]
theorem Yu(r:Dq)(v o:Int):(((AG (r.ak v o 2)).set 13 (.int .i64 (r.b2.r.swap v o).a)).set 14 (.int .i64 (r.b2.r.swap v o).b)).set 15 (.int .i64 (r.b2.r.swap v o).c)=AG (r.ak v o 3):=by simp[AG,Dq.ak,A4.swap]
theorem Yt(r:Dq)(v o:Int):(((AG (r.ak v o 3)).set 17 (.int .i64 (r.b3.r.swap v o).a)).set 18 (.int .i64 (r.b3.r.swap v o).b)).set 19 (.int .i64 (r.b3.r.swap v o).c)=AG (r.ak v o 4):=by simp[AG,Dq.ak,A4.swap]
theorem eH(w:World)(r:Dq)(v o:Int)(hc:r.bj<=4)(q:Dq)(hq:r.swap v o=q):Calls prog 230 #[.agg #[.int .i64 r.h.n,.int .i64 r.h.r.a,.int .i64 r.h.r.b,.int .i64 r.h.r.c,.int .i64 r.b0.n,.int .i64 r.b0.r.a,.int .i64 r.b0.r.b,.int .i64 r.b0.r.c,.int .i64 r.b1.n,.int .i64 r.b1.r.a,.int .i64 r.b1.r.b,.int .i64 r.b1.r.c,.int .i64 r.b2.n,.int .i64 r.b2.r.a,.int .i64 r.b2.r.b,.int .i64 r.b2.r.c,.int .i64 r.b3.n,.int .i64 r.b3.r.a,.int .i64 r.b3.r.b,.int .i64 r.b3.r.c,.int .i64 (r.pos:Nat),.int .i64 (r.bj:Nat)],.int .i64 v,.int .i64 o] w fun e w'=>e=.returned (.agg (AG q).toArray)/\Below w.heap.size w w':=by
 have Y:=(Aw.new w (AG r) 226).alloc (.cells #[.int .i64 0,.int .i64 0,.int .i64 0,.int .i64 0,.int .i64 0,.int .i64 0,.int .i64 0,.int .i64 0,.int .i64 0,.int .i64 0,.int .i64 0,.int .i64 0,.int .i64 0,.int .i64 0,.int .i64 0,.int .i64 0,.int .i64 0,.int .i64 0,.int .i64 0,.int .i64 0,.int .i64 0,.int .i64 0] 226);have l:=Aw.new (w.alloc (.cells #[.int .i64 r.h.n,.int .i64 r.h.r.a,.int .i64 r.h.r.b,.int .i64 r.h.r.c,.int .i64 r.b0.n,.int .i64 r.b0.r.a,.int .i64 r.b0.r.b,.int .i64 r.b0.r.c,.int .i64 r.b1.n,.int .i64 r.b1.r.a,.int .i64 r.b1.r.b,.int .i64 r.b1.r.c,.int .i64 r.b2.n,.int .i64 r.b2.r.a,.int .i64 r.b2.r.b,.int .i64 r.b2.r.c,.int .i64 r.b3.n,.int .i64 r.b3.r.a,.int .i64 r.b3.r.b,.int .i64 r.b3.r.c,.int .i64 (r.pos:Nat),.int .i64 (r.bj:Nat)] 226)) [.int .i64 0,.int .i64 0,.int .i64 0,.int .i64 0,.int .i64 0,.int .i64 0,.int .i64 0,.int .i64 0,.int .i64 0,.int .i64 0,.int .i64 0,.int .i64 0,.int .i64 0,.int .i64 0,.int .i64 0,.int .i64 0,.int .i64 0,.int .i64 0,.int .i64 0,.int .i64 0,.int .i64 0,.int .i64 0] 226;rw[show(w.alloc (.cells #[.int .i64 r.h.n,.int .i64 r.h.r.a,.int .i64 r.h.r.b,.int .i64 r.h.r.c,.int .i64 r.b0.n,.int .i64 r.b0.r.a,.int .i64 r.b0.r.b,.int .i64 r.b0.r.c,.int .i64 r.b1.n,.int .i64 r.b1.r.a,.int .i64 r.b1.r.b,.int .i64 r.b1.r.c,.int .i64 r.b2.n,.int .i64 r.b2.r.a,.int .i64 r.b2.r.b,.int .i64 r.b2.r.c,.int .i64 r.b3.n,.int .i64 r.b3.r.a,.int .i64 r.b3.r.b,.int .i64 r.b3.r.c,.int .i64 (r.pos:Nat),.int .i64 (r.bj:Nat)] 226)).heap.size=w.heap.size+1 by simp]at l;have x:=((Ag w.heap.size w).alloc (Ab _) (.cells #[.int .i64 r.h.n,.int .i64 r.h.r.a,.int .i64 r.h.r.b,.int .i64 r.h.r.c,.int .i64 r.b0.n,.int .i64 r.b0.r.a,.int .i64 r.b0.r.b,.int .i64 r.b0.r.c,.int .i64 r.b1.n,.int .i64 r.b1.r.a,.int .i64 r.b1.r.b,.int .i64 r.b1.r.c,.int .i64 r.b2.n,.int .i64 r.b2.r.a,.int .i64 r.b2.r.b,.int .i64 r.b2.r.c,.int .i64 r.b3.n,.int .i64 r.b3.r.a,.int .i64 r.b3.r.b,.int .i64 r.b3.r.c,.int .i64 (r.pos:Nat),.int .i64 (r.bj:Nat)] 226)).alloc (by simp) (.cells #[.int .i64 0,.int .i64 0,.int .i64 0,.int .i64 0,.int .i64 0,.int .i64 0,.int .i64 0,.int .i64 0,.int .i64 0,.int .i64 0,.int .i64 0,.int .i64 0,.int .i64 0,.int .i64 0,.int .i64 0,.int .i64 0,.int .i64 0,.int .i64 0,.int .i64 0,.int .i64 0,.int .i64 0,.int .i64 0] 226);go_enter func230,ntmps230;go_wp2_with (go_at_call 231;refine(Mb _ r.h.r v o).mono ?_;rintro e w1 ⟨rfl,s⟩;have y:=Y.below s;have Q:=l.below s;have d:=x.trans (s.mono x.size);have E:=y.frozen;have V:=y.lt;have K:=Q.lt;have z1:w1.cell? ⟨w.heap.size,1,none⟩=some (.int .i64 r.h.r.a):=y.cell 1;have z2:w1.cell? ⟨w.heap.size,2,none⟩=some (.int .i64 r.h.r.b):=y.cell 2;have z3:w1.cell? ⟨w.heap.size,3,none⟩=some (.int .i64 r.h.r.c):=y.cell 3;have S:w1.cell? ⟨w.heap.size,21,none⟩=some (.int .i64 (r.bj:Nat)):=y.cell 21)
 go_loopw [18] (fun B wr=>∃(i:Nat),i<=r.bj/\B=.int .i64 i/\Aw wr w.heap.size (AG (r.ak v o i)) 226/\Aw wr (w.heap.size+1) [.int .i64 0,.int .i64 0,.int .i64 0,.int .i64 0,.int .i64 0,.int .i64 0,.int .i64 0,.int .i64 0,.int .i64 0,.int .i64 0,.int .i64 0,.int .i64 0,.int .i64 0,.int .i64 0,.int .i64 0,.int .i64 0,.int .i64 0,.int .i64 0,.int .i64 0,.int .i64 0,.int .i64 0,.int .i64 0] 226/\Below w.heap.size w wr) (fun B _=>r.bj-(intOf B).toNat)
 case atStart=>refine⟨0,by omega,rfl,?_,((Q.setOther ⟨w.heap.size,1,none⟩ _ (by simp)).setOther ⟨w.heap.size,2,none⟩ _ (by simp)).setOther ⟨w.heap.size,3,none⟩ _ (by simp),((d.setCell (p:=⟨w.heap.size,1,none⟩) (Ab _) _).setCell (p:=⟨w.heap.size,2,none⟩) (Ab _) _).setCell (p:=⟨w.heap.size,3,none⟩) (Ab _) _⟩;have h:=((y.setCell 1 (.int .i64 (r.h.r.swap v o).a)).setCell 2 (.int .i64 (r.h.r.swap v o).b)).setCell 3 (.int .i64 (r.h.r.swap v o).c);rw[bV]at h;exact h
 case round=>
  clear Y l x y Q d z1 z2 z3 S E V K;obtain⟨i,hi,rfl,hR,f,Z⟩:=hrel;have V:=hR.lt;have K:=f.lt;have g:=Z.size;by_cases q1:i<r.bj
  ·have q0:(i:Int)<(r.bj:Int):=by omega
   rcases(show i=0\/i=1\/i=2\/i=3 by omega) with m|m|m|m
   ·as_aux_lemma=>
    subst m;rw[show((0:Nat):Int)=0 from rfl]at*;have R:wr.cell? ⟨w.heap.size,5,none⟩=some (.int .i64 r.b0.r.a):=hR.cell 5;have P:wr.cell? ⟨w.heap.size,6,none⟩=some (.int .i64 r.b0.r.b):=hR.cell 6;have C:wr.cell? ⟨w.heap.size,7,none⟩=some (.int .i64 r.b0.r.c):=hR.cell 7;go_wp2_with (go_at_call 231;refine(Mb _ r.b0.r v o).mono ?_;rintro e w2 ⟨rfl,z⟩;have j:=hR.below z;have k:=f.below z;have t:=j.frozen;have u:=j.lt;have M:w2.cell? ⟨w.heap.size,5,none⟩=some (.int .i64 r.b0.r.a):=j.cell 5;have N:w2.cell? ⟨w.heap.size,6,none⟩=some (.int .i64 r.b0.r.b):=j.cell 6;have X:w2.cell? ⟨w.heap.size,7,none⟩=some (.int .i64 r.b0.r.c):=j.cell 7);refine⟨⟨1,by omega,rfl,?_,((k.setOther ⟨w.heap.size,5,none⟩ _ (by simp)).setOther ⟨w.heap.size,6,none⟩ _ (by simp)).setOther ⟨w.heap.size,7,none⟩ _ (by simp),(((Z.trans (z.mono g)).setCell (p:=⟨w.heap.size,5,none⟩) (Ab _) _).setCell (p:=⟨w.heap.size,6,none⟩) (Ab _) _).setCell (p:=⟨w.heap.size,7,none⟩) (Ab _) _⟩,by simp[intOf];omega⟩;have h:=((j.setCell 5 (.int .i64 (r.b0.r.swap v o).a)).setCell 6 (.int .i64 (r.b0.r.swap v o).b)).setCell 7 (.int .i64 (r.b0.r.swap v o).c);rw[Yw]at h;exact h
   ·as_aux_lemma=>
    subst m;rw[show((1:Nat):Int)=1 from rfl]at*;have R:wr.cell? ⟨w.heap.size,9,none⟩=some (.int .i64 r.b1.r.a):=hR.cell 9;have P:wr.cell? ⟨w.heap.size,10,none⟩=some (.int .i64 r.b1.r.b):=hR.cell 10;have C:wr.cell? ⟨w.heap.size,11,none⟩=some (.int .i64 r.b1.r.c):=hR.cell 11;go_wp2_with (go_at_call 231;refine(Mb _ r.b1.r v o).mono ?_;rintro e w2 ⟨rfl,z⟩;have j:=hR.below z;have k:=f.below z;have t:=j.frozen;have u:=j.lt;have M:w2.cell? ⟨w.heap.size,9,none⟩=some (.int .i64 r.b1.r.a):=j.cell 9;have N:w2.cell? ⟨w.heap.size,10,none⟩=some (.int .i64 r.b1.r.b):=j.cell 10;have X:w2.cell? ⟨w.heap.size,11,none⟩=some (.int .i64 r.b1.r.c):=j.cell 11);refine⟨⟨2,by omega,rfl,?_,((k.setOther ⟨w.heap.size,9,none⟩ _ (by simp)).setOther ⟨w.heap.size,10,none⟩ _ (by simp)).setOther ⟨w.heap.size,11,none⟩ _ (by simp),(((Z.trans (z.mono g)).setCell (p:=⟨w.heap.size,9,none⟩) (Ab _) _).setCell (p:=⟨w.heap.size,10,none⟩) (Ab _) _).setCell (p:=⟨w.heap.size,11,none⟩) (Ab _) _⟩,by simp[intOf];omega⟩;have h:=((j.setCell 9 (.int .i64 (r.b1.r.swap v o).a)).setCell 10 (.int .i64 (r.b1.r.swap v o).b)).setCell 11 (.int .i64 (r.b1.r.swap v o).c);rw[Yv]at h;exact h
   ·as_aux_lemma=>
    subst m;rw[show((2:Nat):Int)=2 from rfl]at*;have R:wr.cell? ⟨w.heap.size,13,none⟩=some (.int .i64 r.b2.r.a):=hR.cell 13;have P:wr.cell? ⟨w.heap.size,14,none⟩=some (.int .i64 r.b2.r.b):=hR.cell 14;have C:wr.cell? ⟨w.heap.size,15,none⟩=some (.int .i64 r.b2.r.c):=hR.cell 15;go_wp2_with (go_at_call 231;refine(Mb _ r.b2.r v o).mono ?_;rintro e w2 ⟨rfl,z⟩;have j:=hR.below z;have k:=f.below z;have t:=j.frozen;have u:=j.lt;have M:w2.cell? ⟨w.heap.size,13,none⟩=some (.int .i64 r.b2.r.a):=j.cell 13;have N:w2.cell? ⟨w.heap.size,14,none⟩=some (.int .i64 r.b2.r.b):=j.cell 14;have X:w2.cell? ⟨w.heap.size,15,none⟩=some (.int .i64 r.b2.r.c):=j.cell 15);refine⟨⟨3,by omega,rfl,?_,((k.setOther ⟨w.heap.size,13,none⟩ _ (by simp)).setOther ⟨w.heap.size,14,none⟩ _ (by simp)).setOther ⟨w.heap.size,15,none⟩ _ (by simp),(((Z.trans (z.mono g)).setCell (p:=⟨w.heap.size,13,none⟩) (Ab _) _).setCell (p:=⟨w.heap.size,14,none⟩) (Ab _) _).setCell (p:=⟨w.heap.size,15,none⟩) (Ab _) _⟩,by simp[intOf];omega⟩;have h:=((j.setCell 13 (.int .i64 (r.b2.r.swap v o).a)).setCell 14 (.int .i64 (r.b2.r.swap v o).b)).setCell 15 (.int .i64 (r.b2.r.swap v o).c);rw[Yu]at h;exact h
   ·as_aux_lemma=>
    subst m;rw[show((3:Nat):Int)=3 from rfl]at*;have R:wr.cell? ⟨w.heap.size,17,none⟩=some (.int .i64 r.b3.r.a):=hR.cell 17;have P:wr.cell? ⟨w.heap.size,18,none⟩=some (.int .i64 r.b3.r.b):=hR.cell 18;have C:wr.cell? ⟨w.heap.size,19,none⟩=some (.int .i64 r.b3.r.c):=hR.cell 19;go_wp2_with (go_at_call 231;refine(Mb _ r.b3.r v o).mono ?_;rintro e w2 ⟨rfl,z⟩;have j:=hR.below z;have k:=f.below z;have t:=j.frozen;have u:=j.lt;have M:w2.cell? ⟨w.heap.size,17,none⟩=some (.int .i64 r.b3.r.a):=j.cell 17;have N:w2.cell? ⟨w.heap.size,18,none⟩=some (.int .i64 r.b3.r.b):=j.cell 18;have X:w2.cell? ⟨w.heap.size,19,none⟩=some (.int .i64 r.b3.r.c):=j.cell 19);refine⟨⟨4,by omega,rfl,?_,((k.setOther ⟨w.heap.size,17,none⟩ _ (by simp)).setOther ⟨w.heap.size,18,none⟩ _ (by simp)).setOther ⟨w.heap.size,19,none⟩ _ (by simp),(((Z.trans (z.mono g)).setCell (p:=⟨w.heap.size,17,none⟩) (Ab _) _).setCell (p:=⟨w.heap.size,18,none⟩) (Ab _) _).setCell (p:=⟨w.heap.size,19,none⟩) (Ab _) _⟩,by simp[intOf];omega⟩;have h:=((j.setCell 17 (.int .i64 (r.b3.r.swap v o).a)).setCell 18 (.int .i64 (r.b3.r.swap v o).b)).setCell 19 (.int .i64 (r.b3.r.swap v o).c);rw[Yt]at h;exact h
  ·have G:i=r.bj:=by omega
   subst G;have U:r.ak v o r.bj=q:=hq;rw[U]at hR;clear hq U;have J:(prog.info? 226).map (fun i=>i.size)=some (AG q).toArray.size:=Et;go_wp2_with (first|(refine CK rfl 226 (.tmp 3) rfl w.heap.size rfl 226 (AG q).toArray (0,0) _ hR underlying226 rfl J ?_)|(refine D7 rfl 226 (.tmp 6) (.tmp 34) rfl (w.heap.size+1) (AG q).toArray rfl rfl 226 _ f J (by simp[AG]) (Mk q) ?_));refine Aq (v:=.agg (AG q).toArray) (jR rfl _ _ (w.heap.size+1) 226 (AG q).toArray (0,0) _ rfl (F7 wr (w.heap.size+1) _ _ _ _ f) underlying226 rfl J) rfl ⟨rfl,below_setRow Z (by omega) _⟩
theorem Aw.row{w:World}{g:Nat}{cs:List Value}{t:TypeId}(h:Aw w g cs t)(cs':List Value):Aw (w.setRow g cs'.toArray) g cs' t:=F7 w g _ _ _ _ h
theorem Aw.cg{w:World}{b:Nat}{cs:List Value}{t:TypeId}(h:Aw w b cs t)(g:Nat)(c:Array Value)(q:b≠g):Aw (w.setRow g c) b cs t:=by unfold Aw;rw[setRow_other w g b c q];exact h
theorem Oi:(prog.info? 221).map (fun i=>i.size)=some 3:=by kernel_rfl
theorem JG{P:Program}{j:Func}{p u:Tmp}{ty:TypeId}(h:j.results=#[.cell p ty,.tmp u])(q:Array Value)(w:World)(g:Nat)(t:TypeId)(cs:Array Value)(z:Nat×Nat)(d:TypeDesc)
 (v:q.getD p undef=.pointer (some ⟨g,0,none⟩))(y:w.heap[g]? =some (.cells cs t z))(r:P.underlying ty=some d)(hd:(match d with|.struct _|.array _ _=>true|_=>false)=true)(k:(P.info? ty).map (fun i=>i.size)=some cs.size)(b:Value)(hb:q.getD u undef=b):
 (results j q).run P w=.ok (.tuple #[.agg cs,b]) w:=by
 rw[results_cell_tmp h,v,hb];simp[asAddr,run_loadVar_row w g t ty cs z d y r hd k,Result.andThen]
theorem kH(x y z:Int):#[Value.int .i64 x,.int .i64 y,.int .i64 z].all (fun u=>u.oneCell')=true:=by simp[Value.oneCell']
theorem Wo(w:World)(a b c v o:Int):Calls prog 231 #[.agg #[.int .i64 a,.int .i64 b,.int .i64 c],.int .i64 v,.int .i64 o] w fun e w'=>e=.returned (.agg #[.int .i64 (Cb v o a),.int .i64 (Cb v o b),.int .i64 (Cb v o c)])/\Below w.heap.size w w':=Mb w ⟨a,b,c⟩ v o
def nH:Dq:=⟨⟨0,⟨0,0,0⟩⟩,⟨0,⟨0,0,0⟩⟩,⟨0,⟨0,0,0⟩⟩,⟨0,⟨0,0,0⟩⟩,⟨0,⟨0,0,0⟩⟩,0,0⟩
structure Dk where
 r:Dq
 own:R3
 other:R3
def Dk.swap(s:Dk)(v o:Int):Dk:=⟨s.r.swap v o,s.own.swap v o,s.other.swap v o⟩
def Dk.step(s:Dk)(a b:Int):Option Dk:=
 if a<0 then(if a=b then some s else some (s.swap a b))
 else if a=b then some s
 else if b<0 then some (s.swap b a) else none
def Dk.rest:Nat->Dk->Option Dq
 |0,s=>(s.step s.own.a s.other.a).bind fun s=>(s.step s.own.b s.other.b).bind fun s=>(s.step s.own.c s.other.c).map Dk.r
 |1,s=>(s.step s.own.b s.other.b).bind fun s=>(s.step s.own.c s.other.c).map Dk.r
 |2,s=>(s.step s.own.c s.other.c).map Dk.r
 |_,s=>some s.r
def FA(r:Dq)(own other:R3):Option Dq:=Dk.rest 0 ⟨r,own,other⟩
theorem WI(w:World)(r:Dq)(own other:R3)(hc:r.bj<=4):Calls prog 228 #[.agg (AG r).toArray,.agg #[.int .i64 own.a,.int .i64 own.b,.int .i64 own.c],.agg #[.int .i64 other.a,.int .i64 other.b,.int .i64 other.c]] w fun e w'=>(∃q,e=.returned (.tuple #[.agg (AG q).toArray,.bool (FA r own other).isSome])/\∀x,FA r own other=some x->q=x)/\Below w.heap.size w w':=by
 have E:=(((Aw.new w (AG r) 226).alloc (.cells #[.int .i64 own.a,.int .i64 own.b,.int .i64 own.c] 221)).alloc (.cells #[.int .i64 other.a,.int .i64 other.b,.int .i64 other.c] 221)).alloc (.cells #[.int .i64 0,.int .i64 0,.int .i64 0,.int .i64 0,.int .i64 0,.int .i64 0,.int .i64 0,.int .i64 0,.int .i64 0,.int .i64 0,.int .i64 0,.int .i64 0,.int .i64 0,.int .i64 0,.int .i64 0,.int .i64 0,.int .i64 0,.int .i64 0,.int .i64 0,.int .i64 0,.int .i64 0,.int .i64 0] 226);have s:=((Aw.new (w.alloc (.cells (AG r).toArray 226)) (Bh own) 221).alloc (.cells #[.int .i64 other.a,.int .i64 other.b,.int .i64 other.c] 221)).alloc (.cells #[.int .i64 0,.int .i64 0,.int .i64 0,.int .i64 0,.int .i64 0,.int .i64 0,.int .i64 0,.int .i64 0,.int .i64 0,.int .i64 0,.int .i64 0,.int .i64 0,.int .i64 0,.int .i64 0,.int .i64 0,.int .i64 0,.int .i64 0,.int .i64 0,.int .i64 0,.int .i64 0,.int .i64 0,.int .i64 0] 226);have f:=(Aw.new ((w.alloc (.cells (AG r).toArray 226)).alloc (.cells #[.int .i64 own.a,.int .i64 own.b,.int .i64 own.c] 221)) (Bh other) 221).alloc (.cells #[.int .i64 0,.int .i64 0,.int .i64 0,.int .i64 0,.int .i64 0,.int .i64 0,.int .i64 0,.int .i64 0,.int .i64 0,.int .i64 0,.int .i64 0,.int .i64 0,.int .i64 0,.int .i64 0,.int .i64 0,.int .i64 0,.int .i64 0,.int .i64 0,.int .i64 0,.int .i64 0,.int .i64 0,.int .i64 0] 226);have o:=Aw.new (((w.alloc (.cells (AG r).toArray 226)).alloc (.cells #[.int .i64 own.a,.int .i64 own.b,.int .i64 own.c] 221)).alloc (.cells #[.int .i64 other.a,.int .i64 other.b,.int .i64 other.c] 221)) [.int .i64 0,.int .i64 0,.int .i64 0,.int .i64 0,.int .i64 0,.int .i64 0,.int .i64 0,.int .i64 0,.int .i64 0,.int .i64 0,.int .i64 0,.int .i64 0,.int .i64 0,.int .i64 0,.int .i64 0,.int .i64 0,.int .i64 0,.int .i64 0,.int .i64 0,.int .i64 0,.int .i64 0,.int .i64 0] 226;have G:=((((Ag w.heap.size w).alloc (Ab _) (.cells (AG r).toArray 226)).alloc (by simp) (.cells #[.int .i64 own.a,.int .i64 own.b,.int .i64 own.c] 221)).alloc (by simp;omega) (.cells #[.int .i64 other.a,.int .i64 other.b,.int .i64 other.c] 221)).alloc (by simp;omega) (.cells #[.int .i64 0,.int .i64 0,.int .i64 0,.int .i64 0,.int .i64 0,.int .i64 0,.int .i64 0,.int .i64 0,.int .i64 0,.int .i64 0,.int .i64 0,.int .i64 0,.int .i64 0,.int .i64 0,.int .i64 0,.int .i64 0,.int .i64 0,.int .i64 0,.int .i64 0,.int .i64 0,.int .i64 0,.int .i64 0] 226);simp only[C8]at s f o;go_enter func228,ntmps228;go_wp2_with fail
 go_loopw [11] (fun iv wr=>∃(i:Nat) (q:Dq) (a0 z j b0 b1 b2:Int),i<=3/\iv=.int .i64 i/\q.bj=r.bj/\Hid (Dk.rest i ⟨q,⟨a0,z,j⟩,⟨b0,b1,b2⟩⟩=FA r own other)/\Aw wr w.heap.size (AG q) 226/\Aw wr (w.heap.size+1) [.int .i64 a0,.int .i64 z,.int .i64 j] 221/\Aw wr (w.heap.size+1+1) [.int .i64 b0,.int .i64 b1,.int .i64 b2] 221/\Aw wr (w.heap.size+1+1+1) [.int .i64 0,.int .i64 0,.int .i64 0,.int .i64 0,.int .i64 0,.int .i64 0,.int .i64 0,.int .i64 0,.int .i64 0,.int .i64 0,.int .i64 0,.int .i64 0,.int .i64 0,.int .i64 0,.int .i64 0,.int .i64 0,.int .i64 0,.int .i64 0,.int .i64 0,.int .i64 0,.int .i64 0,.int .i64 0] 226/\Below w.heap.size w wr) (fun iv _=>3-(intOf iv).toNat)
 case atStart=>exact⟨0,r,own.a,own.b,own.c,other.a,other.b,other.c,by omega,rfl,rfl,rfl,E,s,f,o,G⟩
 case round=>
  clear E s f o G;obtain⟨i,q,a0,z,j,b0,b1,b2,hi,rfl,O,Q,hR,Y,N,J,U⟩:=hrel;have j5:=U.size;by_cases j7:i<3
  ·obtain⟨x,y,x0,y0,p⟩:∃x y,wr.cell? ⟨w.heap.size+1,i,none⟩=some (.int .i64 x)/\wr.cell? ⟨w.heap.size+1+1,i,none⟩=some (.int .i64 y)/\Hid (((Dk.mk q ⟨a0,z,j⟩ ⟨b0,b1,b2⟩).step x y).bind (Dk.rest (i+1))=FA r own other):=by
    rcases(show i=0\/i=1\/i=2 by omega) with rfl|rfl|rfl
    ·exact⟨_,_,Y.cell 0,N.cell 0,Q⟩
    ·exact⟨_,_,Y.cell 1,N.cell 1,Q⟩
    ·exact⟨_,_,Y.cell 2,N.cell 2,Ao (by rw[<-Q.out];simp only[Dk.rest];cases Dk.step _ j b2<;>rfl)⟩
   clear Q;generalize hn:i+1=n at p;rcases(show i=0\/i=1\/i=2 by omega) with L|L|L<;>subst L
   all_goals
    first|rw[show((0:Nat):Int)=0 from rfl]at*|rw[show((1:Nat):Int)=1 from rfl]at*|rw[show((2:Nat):Int)=2 from rfl]at*
    by_cases Z:x=y
    ·have t:=Ao (show Dk.rest n ⟨q,⟨a0,z,j⟩,⟨b0,b1,b2⟩⟩=FA r own other by rw[<-p.out];simp[Dk.step,Z]);clear p;subst Z;cases l:decide (x<0)
     all_goals
      go_wp2_with fail;go_region;go_wp2_with (go_at_call 225;refine(Ft _ _).mono ?_;rintro e w9 ⟨rfl,I⟩;subst w9)
      all_goals exact⟨⟨n,q,_,_,_,_,_,_,by omega,by subst hn;rfl,O,t,hR.drew,Y.drew,N.drew,J.drew,U.drew⟩,by simp[intOf]⟩
    ·have j6:¬y=x:=fun h=>Z h.symm;by_cases hb:x<0\/y<0
     ·by_cases m:x<0
      case' pos=>
          have t:=Ao (show Dk.rest n ((Dk.mk q ⟨a0,z,j⟩ ⟨b0,b1,b2⟩).swap x y)=FA r own other by rw[<-p.out];simp[Dk.step,m,Z]);have l:decide (x<0)=true:=by simp[m]
          obtain⟨u,rfl⟩:∃u,u=x:=⟨_,rfl⟩;obtain⟨v,rfl⟩:∃v,v=y:=⟨_,rfl⟩
      case' neg=>
          have hb:=hb.resolve_left m;have t:=Ao (show Dk.rest n ((Dk.mk q ⟨a0,z,j⟩ ⟨b0,b1,b2⟩).swap y x)=FA r own other by rw[<-p.out];simp[Dk.step,m,Z,hb]);have l:decide (x<0)=false:=by simp[m]
          have j3:decide (y<0)=true:=by simp[hb]
          obtain⟨u,rfl⟩:∃u,u=y:=⟨_,rfl⟩;obtain⟨v,rfl⟩:∃v,v=x:=⟨_,rfl⟩
      all_goals
          clear p;go_wp2_with fail;go_region;go_upto_region 11 with(first|(go_at_call 225;refine(Ft _ _).mono ?_;rintro e w9 ⟨rfl,I⟩;subst w9)|(refine CK rfl 226 (.tmp 3) rfl w.heap.size rfl 226 (AG q).toArray (0,0) _ hR.drew underlying226 rfl Et ?_)|(go_at_call 230;refine(eH _ q u v (by omega) _ rfl).mono ?_;rintro e w2 ⟨rfl,k⟩;have A:=hR.drew.below k;have H:=Y.drew.below k;have q1:=N.drew.below k;have q8:=J.drew.below k;have P:=U.drew.trans (k.mono j5))|(refine D7 rfl 226 (.tmp 3) (.tmp 35) rfl w.heap.size (AG (q.swap u v)).toArray rfl rfl 226 _ A Et (by simp[AG]) (Mk _) ?_))
          have q4:=A.row (AG (q.swap u v));have K:=H.cg w.heap.size (AG (q.swap u v)).toArray (by omega);have q2:=q1.cg w.heap.size (AG (q.swap u v)).toArray (by omega);have q9:=q8.cg w.heap.size (AG (q.swap u v)).toArray (by omega);have B:=below_setRow P (Ab _) (AG (q.swap u v)).toArray;generalize w2.setRow w.heap.size (AG (q.swap u v)).toArray=w3 at*;go_upto_region 12 with(first|(refine CK rfl 221 (.tmp 4) rfl (w.heap.size+1) rfl 221 #[.int .i64 a0,.int .i64 z,.int .i64 j] (0,0) _ K underlying221 rfl Oi ?_)|(go_at_call 231;refine(Wo _ a0 z j u v).mono ?_;rintro e w4 ⟨rfl,g⟩;have q5:=q4.below g;have V:=K.below g;have q3:=q2.below g;have j0:=q9.below g;have C:=B.trans (g.mono B.size))|(refine D7 rfl 221 (.tmp 4) (.tmp 39) rfl (w.heap.size+1) #[.int .i64 (Cb u v a0),.int .i64 (Cb u v z),.int .i64 (Cb u v j)] rfl rfl 221 _ V Oi rfl (kH _ _ _) ?_))
          have W:=V.row [.int .i64 (Cb u v a0),.int .i64 (Cb u v z),.int .i64 (Cb u v j)];have q6:=q5.cg (w.heap.size+1) #[.int .i64 (Cb u v a0),.int .i64 (Cb u v z),.int .i64 (Cb u v j)] (by omega);have X:=q3.cg (w.heap.size+1) #[.int .i64 (Cb u v a0),.int .i64 (Cb u v z),.int .i64 (Cb u v j)] (by omega);have j1:=j0.cg (w.heap.size+1) #[.int .i64 (Cb u v a0),.int .i64 (Cb u v z),.int .i64 (Cb u v j)] (by omega);have R:=below_setRow C (show w.heap.size<=w.heap.size+1 by omega) #[.int .i64 (Cb u v a0),.int .i64 (Cb u v z),.int .i64 (Cb u v j)];generalize w4.setRow (w.heap.size+1) #[.int .i64 (Cb u v a0),.int .i64 (Cb u v z),.int .i64 (Cb u v j)]=w5 at*;go_wp2_with (first|(refine CK rfl 221 (.tmp 5) rfl (w.heap.size+1+1) rfl 221 #[.int .i64 b0,.int .i64 b1,.int .i64 b2] (0,0) _ X underlying221 rfl Oi ?_)|(go_at_call 231;refine(Wo _ b0 b1 b2 u v).mono ?_;rintro e w6 ⟨rfl,d⟩;have q7:=q6.below d;have q0:=W.below d;have S:=X.below d;have j2:=j1.below d;have M:=R.trans (d.mono R.size))|(refine D7 rfl 221 (.tmp 5) (.tmp 43) rfl (w.heap.size+1+1) #[.int .i64 (Cb u v b0),.int .i64 (Cb u v b1),.int .i64 (Cb u v b2)] rfl rfl 221 _ S Oi rfl (kH _ _ _) ?_));exact⟨⟨n,q.swap u v,Cb u v a0,Cb u v z,Cb u v j,Cb u v b0,Cb u v b1,Cb u v b2,by omega,by subst hn;rfl,O,t,q7.cg (w.heap.size+1+1) _ (by omega),q0.cg (w.heap.size+1+1) _ (by omega),S.row [.int .i64 (Cb u v b0),.int .i64 (Cb u v b1),.int .i64 (Cb u v b2)],j2.cg (w.heap.size+1+1) _ (by omega),below_setRow M (by omega) _⟩,by simp[intOf]⟩
     ·have m:¬x<0:=fun h=>hb (.inl h);have hb:¬y<0:=fun h=>hb (.inr h);have t:=Ao (show FA r own other=none by rw[<-p.out];simp[Dk.step,m,Z,hb]);have l:decide (x<0)=false:=by simp[m]
      have j3:decide (y<0)=false:=by simp[hb]
      clear p;go_wp2_with fail;go_region;go_wp2_with (first|(go_at_call 225;refine(Ft _ _).mono ?_;rintro e w9 ⟨rfl,I⟩;subst w9)|(refine D7 rfl 226 (.tmp 6) (.tmp 31) rfl (w.heap.size+1+1+1) (AG nH).toArray rfl rfl 226 _ J.drew Et (by simp[AG]) (Mk _) ?_));refine Aq (v:=.tuple #[.agg (AG nH).toArray,.bool false]) (JG rfl _ _ (w.heap.size+1+1+1) 226 (AG nH).toArray (0,0) _ rfl (F7 _ (w.heap.size+1+1+1) _ _ _ _ J.drew) underlying226 rfl Et (.bool false) rfl) rfl ⟨⟨nH,by rw[t.out];rfl,fun x hx=>by rw[t.out]at hx;cases hx⟩,below_setRow U.drew (by omega) _⟩
  ·have j4:i=3:=by omega
   subst j4;rw[show((3:Nat):Int)=3 from rfl]at*;have t:=Ao (show FA r own other=some q from Q.out.symm);clear Q;go_wp2_with (first|(refine CK rfl 226 (.tmp 3) rfl w.heap.size rfl 226 (AG q).toArray (0,0) _ hR underlying226 rfl Et ?_)|(refine D7 rfl 226 (.tmp 6) _ rfl (w.heap.size+1+1+1) (AG q).toArray rfl rfl 226 _ J Et (by simp[AG]) (Mk _) ?_));refine Aq (v:=.tuple #[.agg (AG q).toArray,.bool true]) (JG rfl _ _ (w.heap.size+1+1+1) 226 (AG q).toArray (0,0) _ rfl (F7 _ (w.heap.size+1+1+1) _ _ _ _ J) underlying226 rfl Et (.bool true) rfl) rfl ⟨⟨q,by rw[t.out];rfl,fun x hx=>by rw[t.out]at hx;exact Be hx⟩,below_setRow U (by omega) _⟩
def R3.first(r:R3)(v:Int):Int:=if v=r.a then 0 else if v=r.b then 1 else if v=r.c then 2 else-1
def R3.bc(r:R3)(t:Int):Int:=if t<0 then-1-r.first t else t
def R3.kind(r:R3):R3:=⟨r.bc r.a,r.bc r.b,r.bc r.c⟩
theorem NQ(w:World)(g:Nat)(r:R3)(u:Aw w g (Bh r) 221)(v:Int):Calls prog 226 #[.slice (some ⟨g,0,none⟩) 3 3,.int .i64 v] w fun e w'=>e=.returned (.int .i64 (r.first v))/\w'=w:=by
 have c0:w.cell? ⟨g,0,none⟩=some (.int .i64 r.a):=u.cell 0;have c1:w.cell? ⟨g,1,none⟩=some (.int .i64 r.b):=u.cell 1;have c2:w.cell? ⟨g,2,none⟩=some (.int .i64 r.c):=u.cell 2;go_enter func226,ntmps226;go_wp2_with fail
 go_loopw [8] (fun t wr=>∃(i:Nat),i<=3/\t=.int .i64 i/\Hid ((0<i->v≠r.a)/\(1<i->v≠r.b)/\(2<i->v≠r.c))/\wr=w) (fun t _=>3-(intOf t).toNat)
 case atStart=>exact⟨0,by omega,rfl,⟨fun h=>by omega,fun h=>by omega,fun h=>by omega⟩,rfl⟩
 case round=>
  obtain⟨i,hi,rfl,j,hw⟩:=hrel;subst wr;by_cases q0:i<3
  ·rcases(show i=0\/i=1\/i=2 by omega) with k|k|k
   ·subst k;rw[show((0:Nat):Int)=0 from rfl]at*;by_cases q:v=r.a
    ·have z:=Ao (show r.first v=0 by unfold R3.first;rw[Ai q]);have hb:(v==r.a)=true:=by simpa using q
     clear q j;go_wp2_with fail
     go_ret
     rw[z.out];exact⟨rfl,rfl⟩
    ·have hb:(v==r.a)=false:=by simpa using q
     have y:Hid ((0<1->v≠r.a)/\(1<1->v≠r.b)/\(2<1->v≠r.c)):=⟨fun _=>q,fun h=>by omega,fun h=>by omega⟩;clear q j;go_wp2_with fail;exact⟨⟨1,by omega,rfl,y,trivial⟩,by simp[intOf]⟩
   ·subst k;rw[show((1:Nat):Int)=1 from rfl]at*;by_cases q:v=r.b
    ·have z:=Ao (show r.first v=1 by unfold R3.first;rw[Af (j.out.1 (by omega)),Ai q]);have hb:(v==r.b)=true:=by simpa using q
     clear q j;go_wp2_with fail
     go_ret
     rw[z.out];exact⟨rfl,rfl⟩
    ·have hb:(v==r.b)=false:=by simpa using q
     have y:Hid ((0<2->v≠r.a)/\(1<2->v≠r.b)/\(2<2->v≠r.c)):=⟨fun _=>j.out.1 (by omega),fun _=>q,fun h=>by omega⟩;clear q j;go_wp2_with fail;exact⟨⟨2,by omega,rfl,y,trivial⟩,by simp[intOf]⟩
   ·subst k;rw[show((2:Nat):Int)=2 from rfl]at*;by_cases q:v=r.c
    ·have z:=Ao (show r.first v=2 by unfold R3.first;rw[Af (j.out.1 (by omega)),Af (j.out.2.1 (by omega)),Ai q]);have hb:(v==r.c)=true:=by simpa using q
     clear q j;go_wp2_with fail
     go_ret
     rw[z.out];exact⟨rfl,rfl⟩
    ·have hb:(v==r.c)=false:=by simpa using q
     have y:Hid ((0<3->v≠r.a)/\(1<3->v≠r.b)/\(2<3->v≠r.c)):=⟨fun _=>j.out.1 (by omega),fun _=>j.out.2.1 (by omega),fun _=>q⟩;clear q j;go_wp2_with fail;exact⟨⟨3,by omega,rfl,y,trivial⟩,by simp[intOf]⟩
  ·have d:i=3:=by omega
   subst d;rw[show((3:Nat):Int)=3 from rfl]at*;have z:=Ao (show r.first v= -1 by unfold R3.first;rw[Af (j.out.1 (by omega)),Af (j.out.2.1 (by omega)),Af (j.out.2.2 (by omega))]);clear j;go_wp2_with fail
   go_ret
   rw[z.out];exact⟨rfl,rfl⟩
theorem R3.c8(r:R3)(v:Int): -1<=r.first v/\r.first v<=2:=by
 unfold R3.first
 split
 ·omega
 ·split
  ·omega
  ·split<;>omega
def R3.ay(r:R3)(i:Nat):R3:=⟨if 0<i then r.bc r.a else r.a,if 1<i then r.bc r.b else r.b,if 2<i then r.bc r.c else r.c⟩
theorem R3.dk(r:R3)(h:r.a<0):(Bh (r.ay 0)).set 0 (.int .i64 (-1-r.first r.a))=Bh (r.ay 1):=by simp[Bh,R3.ay,R3.bc,h]
theorem R3.df(r:R3)(h:¬r.a<0):Bh (r.ay 0)=Bh (r.ay 1):=by simp[Bh,R3.ay,R3.bc,h]
theorem R3.dm(r:R3)(h:r.b<0):(Bh (r.ay 1)).set 1 (.int .i64 (-1-r.first r.b))=Bh (r.ay 2):=by simp[Bh,R3.ay,R3.bc,h]
theorem R3.dg(r:R3)(h:¬r.b<0):Bh (r.ay 1)=Bh (r.ay 2):=by simp[Bh,R3.ay,R3.bc,h]
theorem R3.dn(r:R3)(h:r.c<0):(Bh (r.ay 2)).set 2 (.int .i64 (-1-r.first r.c))=Bh (r.ay 3):=by simp[Bh,R3.ay,R3.bc,h]
theorem R3.dh(r:R3)(h:¬r.c<0):Bh (r.ay 2)=Bh (r.ay 3):=by simp[Bh,R3.ay,R3.bc,h]
theorem kL(w:World)(r:R3):Calls prog 217 #[.agg #[.int .i64 r.a,.int .i64 r.b,.int .i64 r.c]] w fun e w'=>e=.returned (.agg #[.int .i64 r.kind.a,.int .i64 r.kind.b,.int .i64 r.kind.c])/\Below w.heap.size w w':=by
 have i0:=Oq r.a r.b r.c;have i1:=Oo r.a r.b r.c;have i2:=On r.a r.b r.c;have f:=((Aw.new w (Bh r) 221).alloc (.cells #[.int .i64 0,.int .i64 0,.int .i64 0] 221)).alloc (.cells #[.int .i64 r.a,.int .i64 r.b,.int .i64 r.c] 221);have m:=(Aw.new (w.alloc (.cells #[.int .i64 r.a,.int .i64 r.b,.int .i64 r.c] 221)) [.int .i64 0,.int .i64 0,.int .i64 0] 221).alloc (.cells #[.int .i64 r.a,.int .i64 r.b,.int .i64 r.c] 221);have t:=Aw.new ((w.alloc (.cells #[.int .i64 r.a,.int .i64 r.b,.int .i64 r.c] 221)).alloc (.cells #[.int .i64 0,.int .i64 0,.int .i64 0] 221)) (Bh (r.ay 0)) 221;have s:=(((Ag w.heap.size w).alloc (Ab _) (.cells #[.int .i64 r.a,.int .i64 r.b,.int .i64 r.c] 221)).alloc (by simp) (.cells #[.int .i64 0,.int .i64 0,.int .i64 0] 221)).alloc (by simp;omega) (.cells #[.int .i64 r.a,.int .i64 r.b,.int .i64 r.c] 221);simp only[C8]at m t;go_enter func217,ntmps217;go_wp2_with fail
 go_loopw [8] (fun J wr=>∃(i:Nat),i<=3/\J=.int .i64 i/\Aw wr w.heap.size (Bh r) 221/\Aw wr (w.heap.size+1) [.int .i64 0,.int .i64 0,.int .i64 0] 221/\Aw wr (w.heap.size+1+1) (Bh (r.ay i)) 221/\Below w.heap.size w wr) (fun J _=>3-(intOf J).toNat)
 case atStart=>exact⟨0,by omega,rfl,f,m,t,s⟩
 case round=>
  clear f m t s;obtain⟨i,hi,rfl,hR,g,j,d⟩:=hrel;have fK:=j.frozen;have q2:=hR.lt;have q1:=g.lt;have q0:=j.lt;by_cases q3:i<3
  ·rcases(show i=0\/i=1\/i=2 by omega) with x|x|x
   ·subst x;rw[show((0:Nat):Int)=0 from rfl]at*;have z0:wr.cell? ⟨w.heap.size+1+1,0,none⟩=some (.int .i64 r.a):=j.cell 0;by_cases z:r.a<0
    ·have k:decide (r.a<0)=true:=by simp[z]
     have o:=r.c8 r.a;have n:=Ao (NQ wr w.heap.size r hR r.a);have y:=Ao (r.dk z);generalize u:r.first r.a=fx at*;clear u;go_wp2_with (first|(go_at_call 225;refine(Ft _ _).mono ?_;rintro e w9 ⟨rfl,q⟩;subst w9)|(go_at_call 226;refine(n.out).mono ?_;rintro e w9 ⟨rfl,q⟩;subst w9));have h:=j.setCell 0 (.int .i64 (-1-fx));rw[y.out]at h;exact⟨⟨1,by omega,rfl,hR.setOther ⟨w.heap.size+1+1,0,none⟩ _ (by simp;omega),g.setOther ⟨w.heap.size+1+1,0,none⟩ _ (by simp),h,d.setCell (p:=⟨w.heap.size+1+1,0,none⟩) (by simp;omega) _⟩,by simp[intOf]⟩
    ·have k:decide (r.a<0)=false:=by simp[z]
     have y:=Ao (r.df z);go_wp2_with (go_at_call 225;refine(Ft _ _).mono ?_;rintro e w9 ⟨rfl,q⟩;subst w9);rw[y.out]at j;exact⟨⟨1,by omega,rfl,hR,g,j,d⟩,by simp[intOf]⟩
   ·subst x;rw[show((1:Nat):Int)=1 from rfl]at*;have z0:wr.cell? ⟨w.heap.size+1+1,1,none⟩=some (.int .i64 r.b):=j.cell 1;by_cases z:r.b<0
    ·have k:decide (r.b<0)=true:=by simp[z]
     have o:=r.c8 r.b;have n:=Ao (NQ wr w.heap.size r hR r.b);have y:=Ao (r.dm z);generalize u:r.first r.b=fx at*;clear u;go_wp2_with (first|(go_at_call 225;refine(Ft _ _).mono ?_;rintro e w9 ⟨rfl,q⟩;subst w9)|(go_at_call 226;refine(n.out).mono ?_;rintro e w9 ⟨rfl,q⟩;subst w9));have h:=j.setCell 1 (.int .i64 (-1-fx));rw[y.out]at h;exact⟨⟨2,by omega,rfl,hR.setOther ⟨w.heap.size+1+1,1,none⟩ _ (by simp;omega),g.setOther ⟨w.heap.size+1+1,1,none⟩ _ (by simp),h,d.setCell (p:=⟨w.heap.size+1+1,1,none⟩) (by simp;omega) _⟩,by simp[intOf]⟩
    ·have k:decide (r.b<0)=false:=by simp[z]
     have y:=Ao (r.dg z);go_wp2_with (go_at_call 225;refine(Ft _ _).mono ?_;rintro e w9 ⟨rfl,q⟩;subst w9);rw[y.out]at j;exact⟨⟨2,by omega,rfl,hR,g,j,d⟩,by simp[intOf]⟩
   ·subst x;rw[show((2:Nat):Int)=2 from rfl]at*;have z0:wr.cell? ⟨w.heap.size+1+1,2,none⟩=some (.int .i64 r.c):=j.cell 2;by_cases z:r.c<0
    ·have k:decide (r.c<0)=true:=by simp[z]
     have o:=r.c8 r.c;have n:=Ao (NQ wr w.heap.size r hR r.c);have y:=Ao (r.dn z);generalize u:r.first r.c=fx at*;clear u;go_wp2_with (first|(go_at_call 225;refine(Ft _ _).mono ?_;rintro e w9 ⟨rfl,q⟩;subst w9)|(go_at_call 226;refine(n.out).mono ?_;rintro e w9 ⟨rfl,q⟩;subst w9));have h:=j.setCell 2 (.int .i64 (-1-fx));rw[y.out]at h;exact⟨⟨3,by omega,rfl,hR.setOther ⟨w.heap.size+1+1,2,none⟩ _ (by simp;omega),g.setOther ⟨w.heap.size+1+1,2,none⟩ _ (by simp),h,d.setCell (p:=⟨w.heap.size+1+1,2,none⟩) (by simp;omega) _⟩,by simp[intOf]⟩
    ·have k:decide (r.c<0)=false:=by simp[z]
     have y:=Ao (r.dh z);go_wp2_with (go_at_call 225;refine(Ft _ _).mono ?_;rintro e w9 ⟨rfl,q⟩;subst w9);rw[y.out]at j;exact⟨⟨3,by omega,rfl,hR,g,j,d⟩,by simp[intOf]⟩
  ·have Q:i=3:=by omega
   subst Q;rw[show((3:Nat):Int)=3 from rfl]at*;have l:Aw wr (w.heap.size+1+1) [.int .i64 r.kind.a,.int .i64 r.kind.b,.int .i64 r.kind.c] 221:=j;go_wp2_with (first|(refine CK rfl 221 (.tmp 3) rfl (w.heap.size+1+1) rfl 221 #[.int .i64 r.kind.a,.int .i64 r.kind.b,.int .i64 r.kind.c] (0,0) _ l underlying221 rfl Oi ?_)|(refine D7 rfl 221 (.tmp 2) _ rfl (w.heap.size+1) #[.int .i64 r.kind.a,.int .i64 r.kind.b,.int .i64 r.kind.c] rfl rfl 221 _ g Oi rfl (kH _ _ _) ?_));refine Aq (v:=.agg #[.int .i64 r.kind.a,.int .i64 r.kind.b,.int .i64 r.kind.c]) (jR rfl _ _ (w.heap.size+1) 221 _ (0,0) _ rfl (F7 _ (w.heap.size+1) _ _ _ _ g) underlying221 rfl Oi) rfl ⟨rfl,below_setRow d (by omega) _⟩
end
section
def R3.map(f:Int->Int)(r:R3):R3:=⟨f r.a,f r.b,f r.c⟩
def A4.map(f:Int->Int)(x:A4):A4:=⟨x.n,x.r.map f⟩
def Dq.map(f:Int->Int)(r:Dq):Dq:=⟨r.h.map f,r.b0.map f,r.b1.map f,r.b2.map f,r.b3.map f,r.pos,r.bj⟩
def Dq.b(r:Dq):Nat->A4
 |0=>r.b0
 |1=>r.b1
 |2=>r.b2
 |_=>r.b3
theorem Dq.bz(f:Int->Int)(r:Dq)(i:Nat):(r.map f).b i=(r.b i).map f:=by
 match i with
 |0=>rfl
 |1=>rfl
 |2=>rfl
 |_+3=>rfl
def R3.Has(r:R3)(t:Int):Prop:=t=r.a\/t=r.b\/t=r.c
theorem R3.bu{f:Int->Int}{r:R3}{t:Int}:(r.map f).Has t↔ ∃y,r.Has y/\f y=t:=by
 unfold R3.Has R3.map;constructor
 ·rintro(h|h|h)
  ·exact⟨r.a,.inl rfl,h.symm⟩
  ·exact⟨r.b,.inr (.inl rfl),h.symm⟩
  ·exact⟨r.c,.inr (.inr rfl),h.symm⟩
 ·rintro⟨y,rfl|rfl|rfl,rfl⟩
  ·exact .inl rfl
  ·exact .inr (.inl rfl)
  ·exact .inr (.inr rfl)
theorem R3.map_map(f g:Int->Int)(r:R3):(r.map f).map g=r.map (fun x=>g (f x)):=rfl
theorem R3.map_congr{f g:Int->Int}{r:R3}(h:∀t,r.Has t->f t=g t):r.map f=r.map g:=by unfold R3.map;rw[h r.a (.inl rfl),h r.b (.inr (.inl rfl)),h r.c (.inr (.inr rfl))]
def R3.Ground(r:R3):Prop:=∀t,r.Has t->0<=t
def O6(f:Int->Int):Prop:=∀c,0<=c->f c=c
structure Ut(f:Int->Int):Prop where
 fix:O6 f
 up:∀v,0<=f v
theorem R3.az{f:Int->Int}(q:O6 f){r:R3}(h:r.Ground):r.map f=r:=by have h2:r.map f=r.map id:=R3.map_congr fun t ht=>q t (h t ht);rw[h2];rfl
theorem Ut.ground{f:Int->Int}(q:Ut f)(r:R3):(r.map f).Ground:=by intro t ht;obtain⟨y,_,rfl⟩:=R3.bu.1 ht;exact q.up y
def Pg:A4:=⟨0,⟨0,0,0⟩⟩
structure Dq.Wf(r:Dq):Prop where
 bj:r.bj<=4
 pos:r.pos<=r.bj
 z0:r.bj<=0->r.b0=Pg
 z1:r.bj<=1->r.b1=Pg
 z2:r.bj<=2->r.b2=Pg
 z3:r.bj<=3->r.b3=Pg
theorem Ln{f:Int->Int}(q:O6 f):Pg.map f=Pg:=by unfold A4.map Pg R3.map;simp[q 0 (Int.le_refl _)]
theorem Dq.Wf.map{r:Dq}(h:r.Wf){f:Int->Int}(q:O6 f):(r.map f).Wf:=
 ⟨h.bj,h.pos,fun e=>by show r.b0.map f=_;rw[h.z0 e,Ln q],fun e=>by show r.b1.map f=_;rw[h.z1 e,Ln q],fun e=>by show r.b2.map f=_;rw[h.z2 e,Ln q],fun e=>by show r.b3.map f=_;rw[h.z3 e,Ln q]⟩
theorem PT{v o:Int}(hv:v<0):O6 (Cb v o):=by intro c hc;unfold Cb;rw[Af (by omega)]
theorem lZ(r:R3)(v o:Int):r.swap v o=r.map (Cb v o):=rfl
theorem YG(r:A4)(v o:Int):r.swap v o=r.map (Cb v o):=rfl
theorem Dq.dp{r:Dq}(h:r.Wf){v:Int}(j:v<0)(o:Int):r.swap v o=r.map (Cb v o):=by
 have z:=fun(x:A4) (e:x=Pg)=>(show x.map (Cb v o)=x by rw[e,Ln (PT j)]);have q:=h.z0;have h1:=h.z1;have h2:=h.z2;have h3:=h.z3;unfold Dq.swap Dq.ak Dq.map;simp only[YG];congr 1
 ·split
  ·rfl
  ·exact(z _ (q (by omega))).symm
 ·split
  ·rfl
  ·exact(z _ (h1 (by omega))).symm
 ·split
  ·rfl
  ·exact(z _ (h2 (by omega))).symm
 ·split
  ·rfl
  ·exact(z _ (h3 (by omega))).symm
def Dk.map(f:Int->Int)(s:Dk):Dk:=⟨s.r.map f,s.own.map f,s.other.map f⟩
structure mZ(a b:Int)(f:Int->Int):Prop where
 fix:O6 f
 same:f a=f b
 back:∀σ:Int->Int,σ a=σ b->∀x,σ (f x)=σ x
 br:∀P:Int->Prop,P a->P b->∀x,P x->P (f x)
theorem P5{a b:Int}(q:a<0):mZ a b (Cb a b):=by
 refine⟨PT q,?_,?_,?_⟩
 ·unfold Cb;rw[Ai rfl]
  split<;>rfl
 ·intro σ h x;unfold Cb
  split
  ·rename_i e;rw[e,h]
  ·rfl
 ·intro P _ hb x hx;unfold Cb
  split
  ·exact hb
  ·exact hx
theorem Dk.b9{s s':Dk}{a b:Int}(j:s.r.Wf)(h:s.step a b=some s'):∃f,mZ a b f/\s'=s.map f:=by
 unfold Dk.step at h
 split at h
 ·rename_i q
  split at h
  ·rename_i e
   injection h with h
   exact⟨id,⟨fun _ _=>rfl,by rw[e],fun _ _ _=>rfl,fun _ _ _ _ h=>h⟩,h.symm⟩
  ·injection h with h
   refine⟨Cb a b,P5 q,?_⟩;rw[<-h];unfold Dk.swap Dk.map;rw[Dq.dp j q];rfl
 ·rename_i q
  split at h
  ·rename_i e
   injection h with h
   exact⟨id,⟨fun _ _=>rfl,by rw[e],fun _ _ _=>rfl,fun _ _ _ _ h=>h⟩,h.symm⟩
  ·split at h
   ·rename_i hb
    injection h with h
    have p:=P5 (a:=b) (b:=a) hb;refine⟨Cb b a,⟨p.fix,p.same.symm,fun σ e=>p.back σ e.symm,fun P h1 h2=>p.br P h2 h1⟩,?_⟩;rw[<-h];unfold Dk.swap Dk.map;rw[Dq.dp j hb];rfl
   ·cases h
theorem Dk.da{s:Dk}{a b:Int}(h:s.step a b=none){σ:Int->Int}(q:O6 σ):σ a≠σ b:=by
 unfold Dk.step at h
 split at h
 ·split at h<;>cases h
 ·split at h
  ·cases h
  ·split at h
   ·cases h
   ·rw[q a (by omega),q b (by omega)];assumption
structure nZ(r:Dq)(own other:R3)(q:Dq)(f:Int->Int):Prop where
 fix:O6 f
 is:q=r.map f
 same:own.map f=other.map f
 back:∀σ:Int->Int,own.map σ=other.map σ->∀x,σ (f x)=σ x
 br:∀P:Int->Prop,(∀t,own.Has t->P t)->(∀t,other.Has t->P t)->∀x,P x->P (f x)
theorem J6{r q:Dq}{own other:R3}(d:r.Wf)(h:FA r own other=some q):∃f,nZ r own other q f:=by
 unfold FA Dk.rest at h;obtain⟨p,h1,h⟩:=Option.bind_eq_some_iff.1 h;obtain⟨f1,z,rfl⟩:=Dk.b9 d h1;obtain⟨m,h2,h⟩:=Option.bind_eq_some_iff.1 h;obtain⟨f2,k,rfl⟩:=Dk.b9 (d.map z.fix) h2;obtain⟨n,h3,h⟩:=Option.map_eq_some_iff.1 h;obtain⟨j,v,rfl⟩:=Dk.b9 ((d.map z.fix).map k.fix) h3;have p:f1 own.a=f1 other.a:=z.same;have m:f2 (f1 own.b)=f2 (f1 other.b):=k.same;have n:j (f2 (f1 own.c))=j (f2 (f1 other.c)):=v.same;refine⟨fun x=>j (f2 (f1 x)),⟨fun c hc=>by rw[z.fix c hc,k.fix c hc,v.fix c hc],h.symm,?_,?_,?_⟩⟩
 ·show R3.mk (j (f2 (f1 own.a))) (j (f2 (f1 own.b))) (j (f2 (f1 own.c)))=R3.mk (j (f2 (f1 other.a))) (j (f2 (f1 other.b))) (j (f2 (f1 other.c)));rw[p,m,n]
 ·intro σ e x;unfold R3.map at e
  injection e with s o i
  have b1:=z.back σ s;have b2:=k.back σ (show σ (f1 own.b)=σ (f1 other.b) by rw[b1,b1,o]);have b3:=v.back σ (show σ (f2 (f1 own.c))=σ (f2 (f1 other.c)) by rw[b2,b2,b1,b1,i]);rw[b3,b2,b1]
 ·intro P u g x hx;have y:=z.br P (u _ (.inl rfl)) (g _ (.inl rfl));have t:=k.br P (y _ (u _ (.inr (.inl rfl)))) (y _ (g _ (.inr (.inl rfl))));have l:=v.br P (t _ (y _ (u _ (.inr (.inr rfl))))) (t _ (y _ (g _ (.inr (.inr rfl)))));exact l _ (t _ (y _ hx))
theorem TI{r:Dq}{own other:R3}(y:r.Wf)(h:FA r own other=none){σ:Int->Int}(q:O6 σ):own.map σ≠other.map σ:=by
 intro e;unfold R3.map at e
 injection e with j z v
 have h:((Dk.mk r own other).step own.a other.a).bind (fun s=>(s.step s.own.b s.other.b).bind fun s=>(s.step s.own.c s.other.c).map Dk.r)=none:=h
 cases h1:(Dk.mk r own other).step own.a other.a with
 |none=>exact Dk.da h1 q j
 |some s1=>
  obtain⟨f1,k,rfl⟩:=Dk.b9 y h1;have b1:=k.back σ j;rw[h1]at h;simp only[Option.bind_some]at h
  cases h2:((Dk.mk r own other).map f1).step ((Dk.mk r own other).map f1).own.b ((Dk.mk r own other).map f1).other.b with
  |none=>exact Dk.da h2 q (show σ (f1 own.b)=σ (f1 other.b) by rw[b1,b1,z])
  |some s2=>
   obtain⟨f2,u,rfl⟩:=Dk.b9 (y.map k.fix) h2;have b2:=u.back σ (show σ (f1 own.b)=σ (f1 other.b) by rw[b1,b1,z]);rw[h2]at h;simp only[Option.bind_some]at h
   cases h3:(((Dk.mk r own other).map f1).map f2).step (((Dk.mk r own other).map f1).map f2).own.c (((Dk.mk r own other).map f1).map f2).other.c with
   |none=>exact Dk.da h3 q (show σ (f2 (f1 own.c))=σ (f2 (f1 other.c)) by rw[b2,b2,b1,b1,v])
   |some s3=>rw[h3]at h;cases h
def IN(q x:R3):Prop:=∃σ,Ut σ/\q.map σ=x
theorem IN.ground{q x:R3}(h:IN q x):x.Ground:=by obtain⟨σ,j,rfl⟩:=h;exact j.ground q
theorem R3.ed(r:R3)(v:Int)(h:r.Has v):0<=r.first v:=by
 unfold R3.first;rcases h with rfl|rfl|rfl
 ·simp
 ·split
  ·omega
  ·simp
 ·split
  ·omega
  ·split
   ·omega
   ·simp
def YF(x:R3)(v:Int):Int:=if v= -1 then x.a else if v= -2 then x.b else if v= -3 then x.c else if v<0 then 0 else v
theorem I4{r x:R3}:IN r.kind x↔IN r x:=by
 constructor
 ·rintro⟨σ,q,rfl⟩;refine⟨fun v=>if v<0 then σ (-1-r.first v) else v,⟨fun c hc=>Af (by omega),fun v=>?_⟩,?_⟩
  ·show 0<=(if v<0 then σ (-1-r.first v) else v)
   split
   ·exact q.up _
   ·omega
  ·have h:∀t,(if t<0 then σ (-1-r.first t) else t)=σ (r.bc t):=by
    intro t;unfold R3.bc
    split
    ·rfl
    ·exact(q.fix t (by omega)).symm
   unfold R3.map R3.kind;simp only[h]
 ·rintro⟨σ,q,rfl⟩;refine⟨YF (r.map σ),⟨?_,?_⟩,?_⟩
  ·intro c hc;unfold YF;rw[Af (by omega),Af (by omega),Af (by omega),Af (by omega)]
  ·intro v;unfold YF R3.map;have:=q.up r.a;have:=q.up r.b;have:=q.up r.c
   split
   ·assumption
   ·split
    ·assumption
    ·split
     ·assumption
     ·split<;>omega
  ·have h:∀t,r.Has t->YF (r.map σ) (r.bc t)=σ t:=by
    intro t ht;unfold R3.bc
    split
    ·rename_i hn;unfold R3.first YF R3.map
     split
     ·rename_i e;simp[e]
     ·split
      ·rename_i e;simp[e]
      ·split
       ·rename_i e;simp[e]
       ·rcases ht with h|h|h<;>contradiction
    ·rename_i hn;unfold YF;rw[Af (by omega),Af (by omega),Af (by omega),Af hn];exact(q.fix t (by omega)).symm
   unfold R3.map R3.kind;congr 1
   ·exact h _ (.inl rfl)
   ·exact h _ (.inr (.inl rfl))
   ·exact h _ (.inr (.inr rfl))
theorem Z2{r:R3}{t:Int}(h:r.kind.Has t):(-3<=t/\t<0)\/(0<=t/\r.Has t):=by
 have k:∀y,r.Has y->(-3<=r.bc y/\r.bc y<0)\/(0<=r.bc y/\r.bc y=y):=by
  intro y q;unfold R3.bc;have h1:=r.ed y q;have h2:=(r.c8 y).2
  split
  ·left
   omega
  ·right
   omega
 rcases h with rfl|rfl|rfl
 ·rcases k r.a (.inl rfl) with h|⟨h,e⟩
  ·exact .inl h
  ·exact .inr ⟨h,.inl e⟩
 ·rcases k r.b (.inr (.inl rfl)) with h|⟨h,e⟩
  ·exact .inl h
  ·exact .inr ⟨h,.inr (.inl e)⟩
 ·rcases k r.c (.inr (.inr rfl)) with h|⟨h,e⟩
  ·exact .inl h
  ·exact .inr ⟨h,.inr (.inr e)⟩
end
section
structure A1 where
 q:A4
 b:Nat
 rows:List R3
 fin:Bool
def BO(S:List A1):Nat:=(S.map fun t=>t.rows.length).sum
structure A1.Le(x y:A1):Prop where
 q:y.q=x.q
 b:y.b=x.b
 rows:x.rows<+:y.rows
 fin:x.fin=true->y.fin=true
theorem A1.Le.refl(x:A1):x.Le x:=⟨rfl,rfl,By _,id⟩
theorem A1.Le.trans{x y z:A1}(h:x.Le y)(g:y.Le z):x.Le z:=⟨g.q.trans h.q,g.b.trans h.b,h.rows.trans g.rows,fun e=>g.fin (h.fin e)⟩
structure Eh(S S':List A1):Prop where
 len:S.length<=S'.length
 at':∀(i:Nat) (x:A1),S[i]? =some x->∃y,S'[i]? =some y/\x.Le y
theorem Eh.refl(S:List A1):Eh S S:=⟨Ab _,fun _ x h=>⟨x,h,.refl x⟩⟩
theorem Eh.trans{S S' S'':List A1}(h:Eh S S')(g:Eh S' S''):Eh S S'':=by refine⟨Ay h.len g.len,fun i x hx=>?_⟩;obtain⟨y,k,q⟩:=h.at' i x hx;obtain⟨z,v,j⟩:=g.at' i y k;exact⟨z,v,q.trans j⟩
theorem Eh.tail{x y:A1}{S S':List A1}(h:Eh (x::S) (y::S')):Eh S S':=
 ⟨by have:=h.len;simp at this;exact this,fun i z q=>h.at' (i+1) z q⟩
theorem Eh.head{x y:A1}{S S':List A1}(h:Eh (x::S) (y::S')):x.Le y:=by
 obtain⟨z,q,j⟩:=h.at' 0 x rfl
 injection q with q
 exact q▸j
theorem Eh.size{S S':List A1}(h:Eh S S'):BO S<=BO S':=by
 induction S generalizing S' with
 |nil=>exact Cq _
 |cons x S q=>
  cases S' with
  |nil=>have:=h.len;simp at this
  |cons y S'=>have h1:=q h.tail;have h2:=h.head.rows.length_le;unfold BO at*;simp only[A6,List.sum_cons];omega
theorem Eh.same{S S':List A1}(h:Eh S S')(z:BO S'=BO S)(i:Nat)(x y:A1)(hx:S[i]? =some x)(j:S'[i]? =some y):y.rows=x.rows:=by
 induction S generalizing S' i with
 |nil=>simp at hx
 |cons a S k=>
  cases S' with
  |nil=>have:=h.len;simp at this
  |cons b S'=>
   have h1:=h.tail.size;have h2:=h.head.rows.length_le;have q:=z;unfold BO at q h1;simp only[A6,List.sum_cons]at q
   match i with
   |0=>
    injection hx with hx
    injection j with j
    subst hx j;exact(h.head.rows.eq_of_length (by omega)).symm
   |i+1=>exact k h.tail (by unfold BO;omega) i hx j
theorem Eh.snoc(S:List A1)(t:A1):Eh S (S++[t]):=by refine⟨by simp,fun i x hx=>⟨x,?_,.refl x⟩⟩;rw[AU (List.getElem?_eq_some_iff.1 hx).1];exact hx
theorem Eh.set{S:List A1}{i:Nat}{t u:A1}(h:S[i]? =some t)(q:t.Le u):Eh S (S.set i u):=by
 refine⟨by simp,fun j x hx=>?_⟩;by_cases e:i=j
 ·subst e;rw[h]at hx
  injection hx with hx
  subst hx;exact⟨u,by rw[CD (List.getElem?_eq_some_iff.1 h).1],q⟩
 ·exact⟨x,by rw[CB e];exact hx,.refl x⟩
def nC(M:Int->R3->Prop)(r:Dq)(p:Nat)(σ:Int->Int):Prop:=
 ∀i,p<=i->i<r.bj->(i<r.pos->M (r.b i).n ((r.b i).r.map σ))/\(r.pos<=i->¬M (r.b i).n ((r.b i).r.map σ))
structure MH(rules:List Dq)(M:Int->R3->Prop):Prop where
 closed:∀r∈rules,∀σ,Ut σ->nC M r 0 σ->M r.h.n (r.h.r.map σ)
 least:∀P:Int->R3->Prop,(∀r∈rules,∀σ,Ut σ->nC M r 0 σ->(∀i,i<r.pos->P (r.b i).n ((r.b i).r.map σ))->P r.h.n (r.h.r.map σ))->∀n x,M n x->P n x
def Dq.fh(P:Int->Prop)(r:Dq):Prop:=(∀t,r.h.r.Has t->P t)/\∀i t,(r.b i).r.Has t->P t
theorem Dq.fh.map{P P':Int->Prop}{r:Dq}(h:r.fh P){f:Int->Int}(j:∀x,P x->P' (f x)):(r.map f).fh P':=by
 refine⟨fun t ht=>?_,fun i t ht=>?_⟩
 ·obtain⟨y,q,rfl⟩:=R3.bu.1 (show(r.h.r.map f).Has t from ht);exact j y (h.1 y q)
 ·rw[Dq.bz]at ht;obtain⟨y,q,rfl⟩:=R3.bu.1 (show((r.b i).r.map f).Has t from ht);exact j y (h.2 i y q)
def dD(r:Dq)(p:Nat):Prop:=∀v,v<0->(r.h.r.Has v\/∃j,r.pos<=j/\j<r.bj/\(r.b j).r.Has v)->∃i,p<=i/\i<r.pos/\(r.b i).r.Has v
structure KH(lay:Int->Nat)(N C:Int)(rules:List Dq):Prop where
 wf:∀r∈rules,r.Wf
 safe:∀r∈rules,dD r 0
 small:∀r∈rules,r.fh (fun t=>t<C)
 low:∀r∈rules,r.fh (fun t=>t<0->t<= -4)
 names:∀r∈rules,∀i,i<r.bj->0<=(r.b i).n/\(r.b i).n<N
 lay:∀r∈rules,∀i,i<r.bj->(i<r.pos->lay (r.b i).n<=lay r.h.n)/\(r.pos<=i->lay (r.b i).n<lay r.h.n)
theorem EC{lay:Int->Nat}{N C:Int}{rules:List Dq}{M:Int->R3->Prop}(hS:MH rules M)(hR:KH lay N C rules){n:Int}{x:R3}(h:M n x):∀t,x.Has t->0<=t/\t<C:=by
 refine hS.least (fun _ x=>∀t,x.Has t->0<=t/\t<C) ?_ n x h;intro r q σ z hM k t ht;obtain⟨y,j,rfl⟩:=R3.bu.1 ht;refine⟨z.up y,?_⟩;by_cases hn:y<0
 ·obtain⟨i,_,v,hb⟩:=hR.safe r q y hn (.inl j);exact(k i v (σ y) (R3.bu.2 ⟨y,hb,rfl⟩)).2
 ·rw[z.fix y (by omega)];exact(hR.small r q).1 y j
theorem LF{lay:Int->Nat}{N C:Int}{rules:List Dq}{M:Int->R3->Prop}(hS:MH rules M)(hR:KH lay N C rules){n:Int}{x:R3}(h:M n x):x.Ground:=fun t ht=>(EC hS hR h t ht).1
structure RJ(M:Int->R3->Prop)(lay:Int->Nat)(N C:Int)(q:A4)(l:Nat)(r:Dq)(p:Nat):Prop where
 wf:r.Wf
 safe:dD r p
 sound:∀σ,Ut σ->nC M r p σ->M q.n (r.h.r.map σ)/\IN q.r (r.h.r.map σ)
 small:r.fh (fun t=>t<C)
 names:∀i,i<r.bj->0<=(r.b i).n/\(r.b i).n<N
 lay:∀i,i<r.bj->(i<r.pos->lay (r.b i).n<=l)/\(r.pos<=i->lay (r.b i).n<l)
def D5(rules:List Dq)(q:A4):List Dq:=rules.filterMap fun r=>if r.h.n=q.n then FA r r.h.r q.r else none
theorem dD.map{r:Dq}{p p':Nat}{f:Int->Int}(h:dD r p)(c:O6 f)(m:∀i y,p<=i->i<r.pos->(r.b i).r.Has y->f y<0->∃k,p'<=k/\k<r.pos/\(r.b k).r.Has y):dD (r.map f) p':=by
 intro v g q
 have:∃y,f y=v/\(r.h.r.Has y\/∃j,r.pos<=j/\j<r.bj/\(r.b j).r.Has y):=by
  rcases q with q|⟨j,h1,h2,q⟩
  ·obtain⟨y,z,e⟩:=R3.bu.1 (show(r.h.r.map f).Has v from q);exact⟨y,e,.inl z⟩
  ·rw[Dq.bz]at q;obtain⟨y,z,e⟩:=R3.bu.1 (show((r.b j).r.map f).Has v from q);exact⟨y,e,.inr ⟨j,h1,h2,z⟩⟩
 obtain⟨y,rfl,z⟩:=this;have u:y<0:=by apply Bj;intro hn;rw[c y (by omega)]at g;omega
 obtain⟨i,h1,h2,h3⟩:=h y u z;obtain⟨k,d,g2,t⟩:=m i y h1 h2 h3 g;exact⟨k,d,g2,by rw[Dq.bz];exact R3.bu.2 ⟨y,t,rfl⟩⟩
section
variable {M:Int->R3->Prop} {lay:Int->Nat} {N C:Int} {rules:List Dq}
theorem RJ.cut(hS:MH rules M)(hR:KH lay N C rules){q:A4}{l:Nat}{r z:Dq}(j:r∈rules)(hn:r.h.n=q.n)(p:FA r r.h.r q.r=some z)(g:lay q.n<=l)(hq:∀t,q.r.Has t->t<C):RJ M lay N C q l z 0:=by
 obtain⟨f,F⟩:=J6 (hR.wf r j) p;have m:=F.is;subst m;refine⟨(hR.wf r j).map F.fix,(hR.safe r j).map F.fix (fun i y h1 h2 h3 _=>⟨i,h1,h2,h3⟩),?_,?_,?_,?_⟩
 ·intro σ b d;have u:Ut (fun x=>σ (f x)):=⟨fun c hc=>by show σ (f c)=c;rw[F.fix c hc,b.fix c hc],fun v=>b.up _⟩;refine⟨?_,fun x=>σ (f x),u,?_⟩
  ·rw[<-hn];refine hS.closed r j (fun x=>σ (f x)) u ?_;intro i h1 h2;have h:=d i h1 h2;rw[Dq.bz]at h;exact h
  ·rw[<-R3.map_map,<-F.same];rfl
 ·exact(hR.small r j).map (F.br (fun t=>t<C) (hR.small r j).1 hq)
 ·intro i k;rw[Dq.bz];exact hR.names r j i k
 ·intro i k;rw[Dq.bz];have h:=hR.lay r j i k;rw[hn]at h;exact⟨fun h1=>Ay (h.1 h1) g,fun h1=>AH (h.2 h1) g⟩
theorem RJ.fi(hS:MH rules M)(hR:KH lay N C rules){q:A4}{l:Nat}{r:Dq}(j:r∈D5 rules q)(y:lay q.n<=l)(hq:∀t,q.r.Has t->t<C):RJ M lay N C q l r 0:=by
 unfold Proofs.YtpbfiffgcgnidaaGreatDoor.D5 at j;obtain⟨r0,z,h1⟩:=List.mem_filterMap.1 j
 split at h1
 ·rename_i hn;exact RJ.cut hS hR z hn h1 y hq
 ·cases h1
theorem RJ.pos(hS:MH rules M)(hR:KH lay N C rules){q:A4}{l:Nat}{r k:Dq}{p:Nat}{x:R3}(h:RJ M lay N C q l r p)(hp:p<r.pos)(hx:M (r.b p).n x)(s:FA r (r.b p).r x=some k):RJ M lay N C q l k (p+1):=by
 obtain⟨f,F⟩:=J6 h.wf s;have o:=F.is;subst o;have g:=EC hS hR hx;have j:x.Ground:=LF hS hR hx;have z:x.map f=x:=R3.az F.fix j;refine⟨h.wf.map F.fix,h.safe.map F.fix (fun i y h1 h2 h3 h4=>?_),?_,?_,?_,?_⟩
 ·by_cases e:i=p
  ·subst e;exfalso;have:((r.b i).r.map f).Has (f y):=R3.bu.2 ⟨y,h3,rfl⟩;rw[F.same,z]at this;have:=j _ this;omega
  ·exact⟨i,by omega,h2,h3⟩
 ·intro σ d m;have a:Ut (fun x=>σ (f x)):=⟨fun c hc=>by show σ (f c)=c;rw[F.fix c hc,d.fix c hc],fun v=>d.up _⟩;refine h.sound (fun x=>σ (f x)) a ?_;intro i h1 h2;by_cases e:i=p
  ·subst e;refine⟨fun _=>?_,fun h3=>by omega⟩;rw[<-R3.map_map,F.same,z,R3.az d.fix j];exact hx
  ·have h3:=m i (by omega) h2;rw[Dq.bz]at h3;exact h3
 ·exact h.small.map (F.br (fun t=>t<C) (fun t ht=>h.small.2 p t ht) (fun t ht=>(g t ht).2))
 ·intro i u;rw[Dq.bz];exact h.names i u
 ·intro i u;rw[Dq.bz];exact h.lay i u
theorem RJ.dc{q:A4}{l:Nat}{r:Dq}{p:Nat}(h:RJ M lay N C q l r p)(j:r.pos<=p)(hc:p<r.bj):(r.b p).r.Ground:=by intro t ht;apply Bj;intro hn;obtain⟨i,h1,h2,_⟩:=h.safe t (by omega) (.inr ⟨p,j,hc,ht⟩);omega
theorem RJ.neg{q:A4}{l:Nat}{r:Dq}{p:Nat}(h:RJ M lay N C q l r p)(y:r.pos<=p)(hc:p<r.bj)(hx:¬M (r.b p).n (r.b p).r):RJ M lay N C q l r (p+1):=by
 refine⟨h.wf,?_,?_,h.small,h.names,h.lay⟩
 ·intro v k u;obtain⟨i,h1,h2,h3⟩:=h.safe v k u;omega
 ·intro σ j z;refine h.sound σ j ?_;intro i h1 h2;by_cases e:i=p
  ·subst e;refine⟨fun h3=>by omega,fun _=>?_⟩;rw[R3.az j.fix (h.dc y hc)];exact hx
  ·exact z i (by omega) h2
theorem RJ.done{q:A4}{l:Nat}{r:Dq}{p:Nat}(h:RJ M lay N C q l r p)(hp:p=r.bj):M q.n r.h.r/\IN q.r r.h.r:=by
 have z:r.h.r.Ground:=by intro t ht;apply Bj;intro hn;obtain⟨i,h1,h2,_⟩:=h.safe t (by omega) (.inl ht);have:=h.wf.pos;omega
 have j:Ut (fun v=>if v<0 then 0 else v):=⟨fun c hc=>Af (by omega),fun v=>by show 0<=(if v<0 then 0 else v);split<;>omega⟩;have:=h.sound _ j (fun i h1 h2=>by omega)
 rwa [R3.az j.fix z]at this
end
structure Hf(M:Int->R3->Prop)(N C:Int)(S:List A1):Prop where
 nodup:(S.map A1.q).Nodup
 name:∀t∈S,0<=t.q.n/\t.q.n<N
 cd:∀t∈S,∀y,t.q.r.Has y-> -3<=y/\y<C
 rows:∀t∈S,t.rows.Nodup
 sound:∀t∈S,∀x∈t.rows,M t.q.n x/\IN t.q.r x
 full:∀t∈S,t.fin=true->∀x,M t.q.n x->IN t.q.r x->x∈t.rows
theorem Hf.add{M:Int->R3->Prop}{N C:Int}{S:List A1}(h:Hf M N C S){i:Nat}{t:A1}(ht:S[i]? =some t){x:R3}(hx:x∉t.rows)(p:M t.q.n x/\IN t.q.r x):Hf M N C (S.set i ⟨t.q,t.b,t.rows++[x],t.fin⟩):=by
 have g:t∈S:=AP ht
 have hq:(S.set i ⟨t.q,t.b,t.rows++[x],t.fin⟩).map A1.q=S.map A1.q:=by
  rw[YY];apply E5;intro j;rw[DM]
  split
  ·rename_i e;subst e;rw[Ba,ht];have:=(List.getElem?_eq_some_iff.1 ht).1;simp[this]
  ·rfl
 have k:∀u∈S.set i ⟨t.q,t.b,t.rows++[x],t.fin⟩,u∈S\/u=⟨t.q,t.b,t.rows++[x],t.fin⟩:=fun u z=>G3 z;refine⟨hq▸h.nodup,?_,?_,?_,?_,?_⟩
 ·intro u z;rcases k u z with z|rfl
  ·exact h.name u z
  ·exact h.name t g
 ·intro u z;rcases k u z with z|rfl
  ·exact h.cd u z
  ·exact h.cd t g
 ·intro u z;rcases k u z with z|rfl
  ·exact h.rows u z
  ·exact List.nodup_append.2 ⟨h.rows t g,by simp,fun a c b hb=>by simp at hb;subst hb;rintro rfl;exact hx c⟩
 ·intro u z y v;rcases k u z with z|rfl
  ·exact h.sound u z y v
  ·rcases List.mem_append.1 v with v|v
   ·exact h.sound t g y v
   ·simp at v;subst v;exact p
 ·intro u z d y h1 h2;rcases k u z with z|rfl
  ·exact h.full u z d y h1 h2
  ·exact List.mem_append.2 (.inl (h.full t g d y h1 h2))
theorem Hf.new{M:Int->R3->Prop}{N C:Int}{S:List A1}(h:Hf M N C S){q:A4}(b:Nat)(hq:q∉S.map A1.q)(hn:0<=q.n/\q.n<N)(ht:∀y,q.r.Has y-> -3<=y/\y<C):Hf M N C (S++[⟨q,b,[],false⟩]):=by
 have z:∀u∈S++[(⟨q,b,[],false⟩:A1)],u∈S\/u=⟨q,b,[],false⟩:=fun u j=>by simpa using j
 refine⟨?_,?_,?_,?_,?_,?_⟩
 ·rw[A8];exact List.nodup_append.2 ⟨h.nodup,by simp,fun a g b hb=>by simp at hb;subst hb;rintro rfl;exact hq g⟩
 ·intro u j;rcases z u j with j|rfl
  ·exact h.name u j
  ·exact hn
 ·intro u j;rcases z u j with j|rfl
  ·exact h.cd u j
  ·exact ht
 ·intro u j;rcases z u j with j|rfl
  ·exact h.rows u j
  ·exact Cw
 ·intro u j y v;rcases z u j with j|rfl
  ·exact h.sound u j y v
  ·cases v
 ·intro u j k;rcases z u j with j|rfl
  ·exact h.full u j k
  ·cases k
def JD(M:Int->R3->Prop)(S:List A1)(nd:List Nat):Nat->Dq->Nat->Nat->Prop
 |0,r,_,g=>∃t,S[g]? =some t/\r.h.r∈t.rows
 |k+1,r,p,g=>if p<r.pos then ∃(i:Nat) (t:A1),S[i]? =some t/\t.q=⟨(r.b p).n,(r.b p).r.kind⟩/\(t.fin=true\/i∈nd)/\∀x∈t.rows,∀j,FA r (r.b p).r x=some j->JD M S nd k j (p+1) g
  else M (r.b p).n (r.b p).r\/JD M S nd k r (p+1) g
theorem JD.mono{M:Int->R3->Prop}{S S':List A1}{nd nd':List Nat}(b:Eh S S')(n:BO S'=BO S)(hn:∀i∈nd,i∈nd'){k:Nat}{r:Dq}{p g:Nat}(h:JD M S nd k r p g):JD M S' nd' k r p g:=by
 induction k generalizing r p with
 |zero=>obtain⟨t,ht,f⟩:=h;obtain⟨u,v,y⟩:=b.at' g t ht;exact⟨u,v,y.rows.subset f⟩
 |succ k m=>
  unfold JD at h⊢
  split
  ·rename_i d;rw[Ai d]at h;obtain⟨i,t,ht,hq,j,hx⟩:=h;obtain⟨u,v,y⟩:=b.at' i t ht;refine⟨i,u,v,y.q.trans hq,?_,?_⟩
   ·rcases j with j|j
    ·exact .inl (y.fin j)
    ·exact .inr (hn i j)
   ·intro x z c s;rw[b.same n i t u ht v]at z;exact m (hx x z c s)
  ·rename_i d;rw[Af d]at h;rcases h with h|h
   ·exact .inl h
   ·exact .inr (m h)
section
variable {M:Int->R3->Prop} {lay:Int->Nat} {N C:Int} {rules:List Dq}
theorem JD.use(hS:MH rules M)(hR:KH lay N C rules){S:List A1}{nd:List Nat}(o:Hf M N C S){σ:Int->Int}(z:Ut σ){P:Int->R3->Prop}(l:∀n x,P n x->∀(i:Nat) (t:A1),S[i]? =some t->(t.fin=true\/i∈nd)->t.q.n=n->IN t.q.r x->x∈t.rows)
 {k:Nat}{r:Dq}{p g:Nat}(h:JD M S nd k r p g)(hk:p+k=r.bj)(v:r.Wf)(u:nC M r p σ)(c:∀i,p<=i->i<r.pos->P (r.b i).n ((r.b i).r.map σ)):∃t,S[g]? =some t/\r.h.r.map σ∈t.rows:=by
 induction k generalizing r p with
 |zero=>obtain⟨t,ht,s⟩:=h;refine⟨t,ht,?_⟩;rw[R3.az z.fix (o.sound t (AP ht) _ s).2.ground];exact s
 |succ k a=>
  unfold JD at h
  split at h
  ·rename_i d;obtain⟨i,t,ht,hq,Q,hx⟩:=h;have h1:=l _ _ (c p (Ab _) d) i t ht Q (by rw[hq]) (by rw[hq];exact I4.2 ⟨σ,z,rfl⟩);have J:((r.b p).r.map σ).Ground:=z.ground _;have m:(r.b p).r.map σ=((r.b p).r.map σ).map σ:=(R3.az z.fix J).symm
   cases hfit:FA r (r.b p).r ((r.b p).r.map σ) with
   |none=>exact absurd m (TI v hfit z.fix)
   |some q1=>
    obtain⟨f,F⟩:=J6 v hfit;have hb:=F.back σ m;have Z:=F.is;subst Z;have j:∀y:R3,(y.map f).map σ=y.map σ:=fun y=>R3.map_congr fun t _=>hb t
    have:=a (hx _ h1 _ hfit) (by show p+1+k=r.bj;omega) (v.map F.fix) (by
     intro i h1 h2;rw[Dq.bz];show(i<r.pos->M (r.b i).n (((r.b i).r.map f).map σ))/\(r.pos<=i->¬M (r.b i).n (((r.b i).r.map f).map σ));rw[j]
     exact u i (by omega) h2) (by
     intro i h1 h2;rw[Dq.bz];show P (r.b i).n (((r.b i).r.map f).map σ);rw[j]
     exact c i (by omega) h2)
    have e:(r.map f).h.r.map σ=r.h.r.map σ:=j r.h.r
    rwa [e]at this
  ·rename_i q0;rcases h with h|h
   ·exfalso;have h2:=(u p (Ab _) (by omega)).2 (by omega);rw[R3.az z.fix (LF hS hR h)]at h2;exact h2 h
   ·exact a h (by omega) v (fun i h1 h2=>u i (by omega) h2) (fun i h1 h2=>c i (by omega) h2)
theorem bT(hS:MH rules M)(hR:KH lay N C rules){S:List A1}{nd:List Nat}(Z:Hf M N C S)(hc:∀i∈nd,∃t,S[i]? =some t/\(t.fin=true\/∀r∈D5 rules t.q,JD M S nd r.bj r 0 i))(i:Nat)(t:A1)(ht:S[i]? =some t)(k:t.fin=true\/i∈nd)(x:R3)(hx:M t.q.n x)(g:IN t.q.r x):x∈t.rows:=by
 refine hS.least (fun n x=>∀(i:Nat) (t:A1),S[i]? =some t->(t.fin=true\/i∈nd)->t.q.n=n->IN t.q.r x->x∈t.rows) ?_ _ x hx i t ht k rfl g;clear hx g k ht x t i;intro r o σ V R A i t ht k hn g;have p:=hS.closed r o σ V R;rcases k with k|k
 ·exact Z.full t (AP ht) k _ (hn▸p) g
 ·obtain⟨t',Q,m⟩:=hc i k;rw[ht]at Q
  injection Q with e
  subst e;rcases m with m|m
  ·exact Z.full t (AP ht) m _ (hn▸p) g
  ·obtain⟨τ,U,G⟩:=g;have K:=hR.wf r o
   let s:Int->Int:=fun v=>if v<= -4 then σ v else τ v
   have hs:Ut s:=⟨fun c hc=>by show(if c<= -4 then σ c else τ c)=c;rw[Af (by omega)];exact U.fix c hc,fun v=>by show 0<=(if v<= -4 then σ v else τ v);split;exact V.up v;exact U.up v⟩
   have l:∀y,(y<0->y<= -4)->s y=σ y:=by
    intro y d;show(if y<= -4 then σ y else τ y)=σ y
    split
    ·rfl
    ·rw[U.fix y (by omega),V.fix y (by omega)]
   have hb:∀j,(r.b j).r.map s=(r.b j).r.map σ:=fun j=>R3.map_congr fun y d=>l y ((hR.low r o).2 j y d);have X:r.h.r.map s=r.h.r.map σ:=R3.map_congr fun y d=>l y ((hR.low r o).1 y d);have hq:t.q.r.map s=t.q.r.map τ:=R3.map_congr fun y d=>by have:=(Z.cd t (AP ht) y d).1;show(if y<= -4 then σ y else τ y)=τ y;rw[Af (by omega)]
   have P:r.h.r.map s=t.q.r.map s:=by rw[X,hq,G]
   cases hfit:FA r r.h.r t.q.r with
   |none=>exact absurd P (TI K hfit hs.fix)
   |some B=>
    obtain⟨f,F⟩:=J6 K hfit;have Y:=F.back s P;have a:B∈D5 rules t.q:=List.mem_filterMap.2 ⟨r,o,by rw[Ai hn.symm,hfit]⟩;have O:=F.is;subst O;have z:∀y:R3,(y.map f).map s=y.map s:=fun y=>R3.map_congr fun t _=>Y t
    have:=JD.use hS hR Z hs (fun n x h=>h) (m _ a) (by show 0+r.bj=r.bj;omega) (K.map F.fix) (by
     intro j h1 h2;rw[Dq.bz];show(j<r.pos->M (r.b j).n (((r.b j).r.map f).map s))/\(r.pos<=j->¬M (r.b j).n (((r.b j).r.map f).map s));rw[z,hb]
     exact R j h1 h2) (by
     intro j h1 h2;rw[Dq.bz];show ∀(i:Nat) (t:A1),S[i]? =some t->(t.fin=true\/i∈nd)->t.q.n=(r.b j).n->IN t.q.r (((r.b j).r.map f).map s)->((r.b j).r.map f).map s∈t.rows;rw[z,hb]
     exact A j h2)
    obtain⟨u,E,J⟩:=this;rw[ht]at E
    injection E with e
    subst e;have e:(r.map f).h.r.map s=r.h.r.map s:=z r.h.r;rw[e,X]at J;exact J
end
end
section
theorem Mu{α:Type}(l:List α)(hn:l.Nodup)(q:α->Nat)(v:∀x∈l,∀y∈l,q x=q y->x=y)(B:Nat)(z:∀x∈l,q x<B):l.length<=B:=by
 have h1:(l.map q).Nodup:=by unfold List.Nodup;rw[IT];exact MN (fun k hb j e=>j (v _ k _ hb e)) hn
 have h2:=h1.length_le_of_subset (l₂:=List.range B) (by
  intro y u;obtain⟨x,hx,rfl⟩:=List.mem_map.1 u
  exact List.mem_range.2 (z x hx))
 simpa using h2
theorem nR{K x y d e:Nat}(hd:d<K)(j:e<K)(h:x*K+d=y*K+e):x=y/\d=e:=by
 have q:0<K:=by omega
 have h1:(x*K+d) / K=x:=by rw[YX,Nat.mul_add_div q,Nat.div_eq_of_lt hd,Nat.add_zero]
 have h2:(y*K+e) / K=y:=by rw[YX,Nat.mul_add_div q,Nat.div_eq_of_lt j,Nat.add_zero]
 have h3:x=y:=by rw[<-h1,<-h2,h]
 subst h3;exact⟨rfl,by omega⟩
theorem VE{K N x d:Nat}(hx:x<N)(hd:d<K):x*K+d<N*K:=by have h1:(x+1)*K<=N*K:=E3 K hx;rw[Nat.add_mul,Nat.one_mul]at h1;omega
def M6(K n a b c:Nat):Nat:=((n*K+a)*K+b)*K+c
theorem Mz{K n a b c n' a' b' c':Nat}(u:a<K)(hb:b<K)(hc:c<K)(q:a'<K)(j:b'<K)(z:c'<K)(h:M6 K n a b c=M6 K n' a' b' c'):n=n'/\a=a'/\b=b'/\c=c':=by unfold M6 at h;obtain⟨h1,h2⟩:=nR hc z h;obtain⟨h3,y⟩:=nR hb j h1;obtain⟨k,v⟩:=nR u q h3;exact⟨k,v,y,h2⟩
theorem OJ{K N n a b c:Nat}(hn:n<N)(q:a<K)(hb:b<K)(hc:c<K):M6 K n a b c<N*K*K*K:=by unfold M6;exact VE (VE (VE hn q) hb) hc
theorem FN{M:Int->R3->Prop}{N C:Nat}{S:List A1}(h:Hf M N C S):S.length<=N*(C+3)*(C+3)*(C+3):=by
 have z:S.length=(S.map A1.q).length:=by simp
 rw[z];have hq:∀q∈S.map A1.q,0<=q.n/\q.n<N/\ -3<=q.r.a/\q.r.a<C/\ -3<=q.r.b/\q.r.b<C/\ -3<=q.r.c/\q.r.c<C:=by intro q hq;obtain⟨t,ht,rfl⟩:=List.mem_map.1 hq;have h1:=h.name t ht;have j:=h.cd t ht _ (.inl rfl);have hb:=h.cd t ht _ (.inr (.inl rfl));have hc:=h.cd t ht _ (.inr (.inr rfl));exact⟨h1.1,h1.2,j.1,j.2,hb.1,hb.2,hc.1,hc.2⟩
 refine Mu _ h.nodup (fun q=>M6 (C+3) q.n.toNat (q.r.a+3).toNat (q.r.b+3).toNat (q.r.c+3).toNat) ?_ _ ?_
 ·intro x hx y k e;obtain⟨v,u,g,x4,x5,x6,d,p⟩:=hq x hx;obtain⟨y1,y2,y3,y4,y5,y6,y7,y8⟩:=hq y k;obtain⟨e1,e2,e3,e4⟩:=Mz (by omega) (by omega) (by omega) (by omega) (by omega) (by omega) e;obtain⟨n,a,b,c⟩:=x;obtain⟨n',a',b',c'⟩:=y;simp only at*;have:n=n':=by omega
  have:a=a':=by omega
  have:b=b':=by omega
  have:c=c':=by omega
  subst n a b c;rfl
 ·intro x hx;obtain⟨v,u,g,x4,x5,x6,d,p⟩:=hq x hx;exact OJ (by omega) (by omega) (by omega) (by omega)
theorem NS{M:Int->R3->Prop}{N C:Nat}{S:List A1}(h:Hf M N C S)(j:∀n x,M n x->∀t,x.Has t->0<=t/\t<C){t:A1}(ht:t∈S):t.rows.length<=1*C*C*C:=by
 have hq:∀x∈t.rows,0<=x.a/\x.a<C/\0<=x.b/\x.b<C/\0<=x.c/\x.c<C:=by intro x hx;have h1:=j _ _ (h.sound t ht x hx).1;have q:=h1 _ (.inl rfl);have hb:=h1 _ (.inr (.inl rfl));have hc:=h1 _ (.inr (.inr rfl));exact⟨q.1,q.2,hb.1,hb.2,hc.1,hc.2⟩
 refine Mu _ (h.rows t ht) (fun x=>M6 C 0 x.a.toNat x.b.toNat x.c.toNat) ?_ _ ?_
 ·intro x hx y z e;obtain⟨k,x4,x5,x6,v,u⟩:=hq x hx;obtain⟨y3,y4,y5,y6,y7,y8⟩:=hq y z;obtain⟨e1,e2,e3,e4⟩:=Mz (by omega) (by omega) (by omega) (by omega) (by omega) (by omega) e;obtain⟨a,b,c⟩:=x;obtain⟨a',b',c'⟩:=y;simp only at*;have:a=a':=by omega
  have:b=b':=by omega
  have:c=c':=by omega
  subst a b c;rfl
 ·intro x hx;obtain⟨k,x4,x5,x6,v,u⟩:=hq x hx;exact OJ (by omega) (by omega) (by omega) (by omega)
def T8(q x:Int):Nat:=(4*x+(if q<0 then-q else 0)).toNat
theorem OP{q x j x':Int}(hq: -3<=q)(hx:0<=x)(q0: -3<=j)(q1:0<=x')(h:0<=q->x=q)(h':0<=j->x'=j)(e:T8 q x=T8 j x'):q=j/\x=x':=by
 unfold T8 at e
 split at e<;>split at e<;>omega
theorem Hl{q x:Int}{C:Nat}(hq: -3<=q)(hx:0<=x)(hc:x<C):T8 q x<4*C:=by
 unfold T8
 split<;>omega
theorem SE(S:List A1):BO S=(S.flatMap fun t=>t.rows.map fun x=>(t.q,x)).length:=by unfold BO;rw[List.length_flatMap];congr 1;apply Ek;intro t _;simp
theorem SD{M:Int->R3->Prop}{N C:Nat}{S:List A1}(h:Hf M N C S)(W:∀n x,M n x->∀t,x.Has t->0<=t/\t<C):BO S<=N*(4*C)*(4*C)*(4*C):=by
 rw[SE];have hq:∀p:A4×R3,p∈(S.flatMap fun t=>t.rows.map fun x=>(t.q,x))->(0<=p.1.n/\p.1.n<N)/\(-3<=p.1.r.a/\0<=p.2.a/\p.2.a<C/\(0<=p.1.r.a->p.2.a=p.1.r.a))/\(-3<=p.1.r.b/\0<=p.2.b/\p.2.b<C/\(0<=p.1.r.b->p.2.b=p.1.r.b))/\(-3<=p.1.r.c/\0<=p.2.c/\p.2.c<C/\(0<=p.1.r.c->p.2.c=p.1.r.c)):=by intro p Q;obtain⟨t,ht,Q⟩:=List.mem_flatMap.1 Q;obtain⟨x,hx,rfl⟩:=List.mem_map.1 Q;have hs:=h.sound t ht x hx;have h1:=W _ _ hs.1;obtain⟨σ,Z,rfl⟩:=hs.2;have G:=h1 _ (.inl rfl);have hb:=h1 _ (.inr (.inl rfl));have hc:=h1 _ (.inr (.inr rfl));exact⟨h.name t ht,⟨(h.cd t ht _ (.inl rfl)).1,G.1,G.2,Z.fix _⟩,⟨(h.cd t ht _ (.inr (.inl rfl))).1,hb.1,hb.2,Z.fix _⟩,⟨(h.cd t ht _ (.inr (.inr rfl))).1,hc.1,hc.2,Z.fix _⟩⟩
 refine Mu _ ?_ (fun p:A4×R3=>M6 (4*C) p.1.n.toNat (T8 p.1.r.a p.2.a) (T8 p.1.r.b p.2.b) (T8 p.1.r.c p.2.c)) ?_ _ ?_
 ·unfold List.Nodup;rw[List.pairwise_flatMap];refine⟨fun t ht=>?_,?_⟩
  ·rw[IT];exact(h.rows t ht).imp (fun k e=>k (by injection e))
  ·have hn:=h.nodup;unfold List.Nodup at hn;rw[IT]at hn;refine hn.imp (fun {t u} k=>?_);intro x hx y J;obtain⟨B,_,rfl⟩:=List.mem_map.1 hx;obtain⟨y1,_,rfl⟩:=List.mem_map.1 J;intro e
   injection e with e
   exact k e
 ·intro x hx y J e;obtain⟨⟨B,x2⟩,⟨o,x4,x5,x6⟩,⟨i,l,Y,d⟩,⟨j,z,g,m⟩⟩:=hq x hx;obtain⟨⟨y1,y2⟩,⟨R,P,y5,y6⟩,⟨X,E,y9,K⟩,⟨s,f,V,U⟩⟩:=hq y J;obtain⟨e1,A,O,I⟩:=Mz (Hl o x4 x5) (Hl i l Y) (Hl j z g) (Hl R P y5) (Hl X E y9) (Hl s f V) e;have f2:=OP o x4 R P x6 y6 A;have L:=OP i l X E d K O;have H:=OP j z s f m U I;obtain⟨⟨n,a,b,c⟩,⟨u,v,w⟩⟩:=x;obtain⟨⟨n',a',b',c'⟩,⟨u',v',w'⟩⟩:=y;simp only at*;have:n=n':=by omega
  obtain⟨f5,f6⟩:=f2;obtain⟨f7,f8⟩:=L;obtain⟨f9,q0⟩:=H;subst n a u b v c w;rfl
 ·intro x hx;obtain⟨⟨B,x2⟩,⟨o,x4,x5,x6⟩,⟨i,l,Y,d⟩,⟨j,z,g,m⟩⟩:=hq x hx;exact OJ (by omega) (Hl o x4 x5) (Hl i l Y) (Hl j z g)
structure nW(N C:Nat):Prop where
 q:N*(C+3)*(C+3)*(C+3)<=100000000000
 r:1*C*C*C<=100000000000
 s:N*(4*C)*(4*C)*(4*C)<=100000000000000
 n:N<=100000000000
 c:C<=100000000000
end
section
abbrev BA:=B8×List B8
def IJ(s:B8->B8)(t:B8):B8:=if Bo t=true then s t else t
def Ct(s:B8->B8)(ts:List B8):List B8:=ts.map (IJ s)
def BQ.put(l:BQ)(s:B8->B8):BA:=(l.name,Ct s l.ts)
def Bd.put(d:Bd)(s:B8->B8):BA:=(d.name,Ct s d.ts)
def dH(M:BA->Prop)(d:Bd)(s:B8->B8):Prop:=∀l∈d.lits,(l.neg=false->M (l.put s))/\(l.neg=true->¬M (l.put s))
structure FT(ds:List Bd)(M:BA->Prop):Prop where
 closed:∀d∈ds,∀s,dH M d s->M (d.put s)
 least:∀P:BA->Prop,(∀d∈ds,∀s,dH M d s->(∀l∈d.lits,l.neg=false->P (l.put s))->P (d.put s))->∀a,M a->P a
def MJ(lay:B8->Nat)(ds:List Bd):Prop:=∀d∈ds,∀l∈d.lits,lay l.name+(if l.neg=true then 1 else 0)<=lay d.name
def HL(lay:B8->Nat)(ds:List Bd):Nat->BA->Prop
 |0,_=>False
 |k+1,a=>∀P:BA->Prop,(∀d∈ds,lay d.name<=k->∀s,(∀l∈d.lits,l.neg=true->¬HL lay ds k (l.put s))->(∀l∈d.lits,l.neg=false->P (l.put s))->P (d.put s))->P a
section
variable {lay:B8->Nat} {ds:List Bd}
theorem HL.close{k:Nat}{d:Bd}(hd:d∈ds)(j:lay d.name<=k)(s:B8->B8)(hn:∀l∈d.lits,l.neg=true->¬HL lay ds k (l.put s))(y:∀l∈d.lits,l.neg=false->HL lay ds (k+1) (l.put s)):HL lay ds (k+1) (d.put s):=by intro P q;exact q d hd j s hn (fun l z e=>y l z e P q)
theorem HL.next(g:MJ lay ds)(k:Nat):∀a:BA,lay a.1<k->(HL lay ds k a↔HL lay ds (k+1) a):=by
 induction k with
 |zero=>intro a h;omega
 |succ k r=>
  have z:∀d∈ds,lay d.name<=k->∀l∈d.lits,l.neg=true->∀s,(HL lay ds k (l.put s)↔HL lay ds (k+1) (l.put s)):=by intro d hd y l q e s;have:=g d hd l q;rw[Ai e]at this;exact r (l.put s) (show lay l.name<k by omega)
  intro a ha;constructor
  ·intro h P t;refine h P ?_;intro d hd y s hn u;exact t d hd (by omega) s (fun l q e hx=>hn l q e ((z d hd y l q e s).2 hx)) u
  ·intro h;refine h (fun b=>lay b.1<=k->HL lay ds (k+1) b) ?_ (by omega);intro d hd y s hn u v;have j:lay d.name<=k:=v;refine HL.close hd j s (fun l q e hx=>hn l q e ((z d hd j l q e s).1 hx)) (fun l q e=>u l q e ?_);have:=g d hd l q;show lay l.name<=k;omega
theorem HL.up(q:MJ lay ds)(a:BA)(j:Nat):HL lay ds (lay a.1+1+j) a↔HL lay ds (lay a.1+1) a:=by
 induction j with
 |zero=>exact Iff.rfl
 |succ j z=>exact(HL.next q (lay a.1+1+j) a (by omega)).symm.trans z
def HD(lay:B8->Nat)(ds:List Bd)(a:BA):Prop:=HL lay ds (lay a.1+1) a
theorem HD.of{k:Nat}(q:MJ lay ds)(a:BA)(h:lay a.1<k):HL lay ds k a↔HD lay ds a:=by have:=HL.up q a (k-(lay a.1+1));rw[show lay a.1+1+(k-(lay a.1+1))=k by omega]at this;exact this
theorem eB(j:MJ lay ds):FT ds (HD lay ds):=by
 have hc:∀d∈ds,∀s,dH (HD lay ds) d s->HD lay ds (d.put s):=by
  intro d hd s z;refine HL.close (k:=lay d.name) hd (Ab _) s (fun l q e hx=>?_) (fun l q e=>?_)
  ·have:=j d hd l q;rw[Ai e]at this;exact(z l q).2 e ((HD.of j (l.put s) (show lay l.name<lay d.name by omega)).1 hx)
  ·have:=j d hd l q;exact(HD.of j (l.put s) (show lay l.name<lay d.name+1 by omega)).2 ((z l q).1 e)
 refine⟨hc,fun P v a u=>?_⟩
 have:=u (fun b=>HD lay ds b/\P b) (by
  intro d hd hk s hn y;have z:dH (HD lay ds) d s:=by intro l q;refine⟨fun e=>(y l q e).1,fun e hx=>hn l q e ?_⟩;have:=j d hd l q;rw[Ai e]at this;exact(HD.of j (l.put s) (show lay l.name<lay a.1 by omega)).2 hx
  exact⟨hc d hd s z,v d hd s z (fun l q e=>(y l q e).2)⟩)
 exact this.2
end
end
section
attribute [local go_sem] AE As
open Go.RowKit Go.WideMaps Go.Maps
variable [DecidableEq R3] [DecidableEq A4]
theorem jM(w:World)(base sb o:Nat)(mv lv:Value)(xs:List R3)(j:w.cell? ⟨sb,o+1,none⟩=some lv)(hS:Dv w base mv lv xs)(i:Nat)(q:i<xs.length):
 Calls prog 153 #[.pointer (some ⟨sb,o,none⟩),.int .i64 i] w fun e w'=>e=.returned (.agg #[.int .i64 xs[i].a,.int .i64 xs[i].b,.int .i64 xs[i].c])/\Below w.heap.size w w':=by
 obtain⟨ao,cap,rfl⟩:=Au hS.1;have h:=hS.1;rw[List.flatMap_def]at h;obtain⟨g,rfl,_,hc⟩:=E8 h (by intro r y;obtain⟨p,_,rfl⟩:=List.mem_map.1 y;rfl) (by simp) i q;have e:(xs.map fun k=>Bh k).getD i []=Bh xs[i]:=by rw[Ap,Ba,Ar q];rfl
 rw[e]at hc;have z:w.cell? ⟨g,i*3,none⟩=some (.int .i64 xs[i].a):=hc 0 (by decide);have d1:w.cell? ⟨g,i*3+1,none⟩=some (.int .i64 xs[i].b):=hc 1 (by decide);have d2:w.cell? ⟨g,i*3+2,none⟩=some (.int .i64 xs[i].c):=hc 2 (by decide);have q1:=FX j;have q0:=FX z;clear hc e h;generalize xs[i]=x at*;go_enter func153,ntmps153;go_wp2_with fail;refine Aq (v:=.agg #[.int .i64 x.a,.int .i64 x.b,.int .i64 x.c]) (by simp[results,results153,go_sem]) rfl ⟨rfl,Ac w _⟩
theorem jN(w:World)(base sb o:Nat)(mv lv:Value)(xs:List Nat)(j:w.cell? ⟨sb,o+1,none⟩=some lv)(hS:DE w base mv lv xs)(i:Nat)(q:i<xs.length):
 Calls prog 201 #[.pointer (some ⟨sb,o,none⟩),.int .i64 i] w fun e w'=>e=.returned (.int .i64 (xs[i]:Nat))/\w'=w:=by
 obtain⟨ao,cap,rfl⟩:=Au hS.1;have h:=hS.1;rw[List.flatMap_def]at h;obtain⟨g,rfl,_,hc⟩:=E8 h (by intro r y;obtain⟨p,_,rfl⟩:=List.mem_map.1 y;rfl) (by simp) i q;have e:(xs.map fun k=>[Value.int .i64 (k:Nat)]).getD i []=[.int .i64 (xs[i]:Nat)]:=by rw[Ap,Ba,Ar q];rfl
 rw[e]at hc;have z:w.cell? ⟨g,i,none⟩=some (.int .i64 (xs[i]:Nat)):=by simpa using hc 0 (by decide)
 have q1:=FX j;have q0:=FX z;clear hc e h;generalize xs[i]=x at*;go_enter func201,ntmps201;go_wp2_with fail
 go_ret
 exact⟨rfl,rfl⟩
end
section
attribute [local go_sem] AE As
open Go.RowKit Go.WideMaps Go.Maps
def Lc(D:DataW Unit)(xs:List B8):Prop:=
 IsMap D/\∀k:B8,k.length<=maxLen->Maps.has D (Lit.string k)=decide (k∈xs)/\D.atKey (Lit.string k) (.lit (.int .i64 0))=.lit (.int .i64 (Ci xs k))
theorem Lc.nil:Lc (.map []) []:=⟨isMap_empty,fun _ _=>⟨rfl,rfl⟩⟩
theorem Lc.put{D:DataW Unit}{xs:List B8}(h:Lc D xs)(k:B8)(u:k.length<=maxLen)(v:k∉xs):Lc (D.put (Lit.string k) (.lit (.int .i64 xs.length))) (xs++[k]):=by
 refine⟨h.1.put _ _,fun j y=>?_⟩;by_cases z:j=k
 ·subst z;rw[has_put_same h.1 (mG j),atKey_put_same h.1 (mG j),Gd xs j v];exact⟨by simp,rfl⟩
 ·have q:(Lit.string j)≠(Lit.string k):=fun e=>z (nN j k y u e);rw[has_put_other q,atKey_put_other q,(h.2 j y).1,(h.2 j y).2,Lz xs k j z];exact⟨by simp[z],rfl⟩
def Cu(w:World)(base:Nat)(mv lv:Value)(xs:List B8):Prop:=
 w.ownsRow base 9 1 lv xs.length (xs.flatMap fun k=>[Value.string (bs k)])/\(∀k∈xs,k.length<=maxLen)/\
 ((mv=.map none/\xs=[])\/∃r D,mv=.map (some r)/\base<=r/\w.ownsMap (H:=Unit) prog 9 (plainElem prog 3) r xs.length D/\Lc D xs)
theorem Cu.nil(w:World)(base:Nat):Cu w base (.map none) (.slice none 0 0) []:=⟨Ak _ _ _ _,by simp,.inl ⟨rfl,rfl⟩⟩
theorem Cu.below{base:Nat}{w w':World}{mv lv:Value}{xs:List B8}(h:Cu w base mv lv xs)(hb:Below w.heap.size w w'):Cu w' base mv lv xs:=by
 refine⟨Ah h.1 hb,h.2.1,?_⟩;rcases h.2.2 with h2|⟨r,D,j,y,z,q⟩
 ·exact .inl h2
 ·exact .inr ⟨r,D,j,y,Fy z hb,q⟩
theorem Cu.only{S:Nat->Prop}{base:Nat}{w w':World}{mv lv:Value}{xs:List B8}(h:Cu w base mv lv xs)(j:A3 S w w')(y:∀q,lv.ownBlock=some q->¬S q)(k:∀q,AN mv=some q->¬S q):Cu w' base mv lv xs:=by
 refine⟨BI h.1 j y,h.2.1,?_⟩;rcases h.2.2 with h2|⟨r,D,rfl,v,u,z⟩
 ·exact .inl h2
 ·exact .inr ⟨r,D,rfl,v,LB u j (k r rfl),z⟩
theorem Cu.lt{base:Nat}{w:World}{mv lv:Value}{xs:List B8}(h:Cu w base mv lv xs):(∀q,lv.ownBlock=some q->base<=q/\q<w.heap.size)/\∀q,AN mv=some q->base<=q/\q<w.heap.size:=by
 refine⟨fun q hq=>h.1.lt q hq,?_⟩;rcases h.2.2 with⟨rfl,_⟩|⟨r,D,rfl,j,z,hD⟩
 ·intro q hq;simp[AN]at hq
 ·intro q hq;simp only[AN,Al]at hq;subst hq;exact⟨j,z.lt⟩
theorem Cu.alloc{base:Nat}{w:World}{mv lv:Value}{xs:List B8}(h:Cu w base mv lv xs)(o:Obj):Cu (w.alloc o) base mv lv xs:=h.below (Ac w o)
theorem Ry(w:World)(base sb o:Nat)(mv lv:Value)(xs:List B8)(k:B8)(t:w.cell? ⟨sb,o,none⟩=some mv)(hS:Cu w base mv lv xs)(b:k.length<=maxLen):
 Calls prog 75 #[.pointer (some ⟨sb,o,none⟩),(.string (bs k))] w fun e w'=>e=.returned (.tuple #[.int .i64 (Ci xs k:Nat),.bool (decide (k∈xs))])/\Below w.heap.size w w':=by
 have q:keyOf prog 9 (.string (bs k))=some (Lit.string k):=Z5 k b;have q1:=FX t;have z:=Ag w.heap.size w;have y:=Ac w (.cells #[.string (bs k)] 9);rcases hS.2.2 with⟨rfl,rfl⟩|⟨r,D,rfl,hr,j,m⟩
 ·have q0:=fun w:World=>look_nil (w:=w) true fU underlying176 (KO w) q;go_enter func75,ntmps75;go_wp2;go_ret2;exact⟨rfl,by first|exact z|exact y.drew⟩
 ·obtain⟨n,g⟩:=m.2 k b;obtain⟨p,d⟩:∃p:Int,Hid (p=(Ci xs k:Nat)):=⟨_,rfl⟩;rw[<-d.out]at g⊢;have look:∀W:World,W.ownsMap (H:=Unit) prog 9 (plainElem prog 3) r xs.length D->(Instr.lookup 176 (.map (some r)) (.string (bs k)) true).run prog W=.ok (.tuple #[.int .i64 p,.bool (decide (k∈xs))]) W:=by intro W hW;obtain⟨v,ps,u,hR⟩:=hW.look_ok fU underlying176 (KO W) (C2 underlying3 (by decide)) q;obtain⟨c,rfl,hc,_⟩:=No underlying3 hR;have e:=Bl Prod.fst hc;simp only[]at e;rw[g]at e;simp at e;rw[u,n,<-e]
  have l0:=look w j;have l1:=look (w.alloc (.cells #[.string (bs k)] 9)).drew (by exact j.alloc _);clear look;go_enter func75,ntmps75;go_wp2;go_ret2;exact⟨rfl,by first|exact z|exact y.drew⟩
theorem iC(w:World)(base sb o:Nat)(mv lv:Value)(xs:List B8)(k:B8)(v:w.cell? ⟨sb,o,none⟩=some mv)(hS:Cu w base mv lv xs)(b:k.length<=maxLen)(hx:k∈xs):
 Calls prog 107 #[.pointer (some ⟨sb,o,none⟩),(.string (bs k))] w fun e w'=>e=.returned (.tuple #[.int .i64 (Ci xs k),.bool false])/\Below w.heap.size w w':=by
 obtain⟨p,g⟩:∃p:Int,Hid (p=(Ci xs k:Nat)):=⟨_,rfl⟩;have u:=FX v;have q:=Ac w (.cells #[.string (bs k)] 9);have z:=Ry w base sb o mv lv xs k v hS b;have y:=Ry (w.alloc (.cells #[.string (bs k)] 9)) base sb o mv lv xs k (by rw[q.cell (p:=⟨sb,o,none⟩) u];exact v) (hS.alloc _) b;rw[Bq hx,<-g.out]at z y;rw[<-g.out];go_enter func107,ntmps107;go_wp2_with (go_at_call 75;first|(refine z.mono ?_;rintro e w9 ⟨rfl,j⟩)|(refine y.mono ?_;rintro e w9 ⟨rfl,j⟩));go_ret2;exact⟨rfl,by first|exact j|exact q.trans (j.mono q.size)⟩
theorem iG(w:World)(base sb o:Nat)(cs:List Value)(t:TypeId)(mv lv:Value)(xs:List B8)(k:B8)(hB:Aw w sb cs t)(h:cs[o]? =some mv)(h1:cs[o+1]? =some lv)(hS:Cu w base mv lv xs)(G:k.length<=maxLen)(hx:k∉xs)(hn:xs.length<=1000000000000)(ht:t≠9)(j1:base<=w.heap.size):
 Calls prog 107 #[.pointer (some ⟨sb,o,none⟩),(.string (bs k))] w fun e w'=>e=.returned (.tuple #[.int .i64 xs.length,.bool true])/\
  ∃U lv',Aw w' sb ((cs.set o U).set (o+1) lv') t/\Cu w' base U lv' (xs++[k])/\Cs w w' sb mv lv U lv':=by
 have c0:w.cell? ⟨sb,o,none⟩=some mv:=(hB.cell o).trans h;have j4:o+1<cs.length:=(List.getElem?_eq_some_iff.1 h1).1;have J:keyOf prog 9 (.string (bs k))=some (Lit.string k):=Z5 k G;obtain⟨i1,M,I,L,W⟩:=Bc mK;obtain⟨pp,HP⟩:∃p:Int,Hid (p=(Ci xs k:Nat)):=⟨_,rfl⟩;have hF:=Ry w base sb o mv lv xs k c0 hS G;rw[A5 hx,<-HP.out]at hF;obtain⟨ao,cap,rfl⟩:=Au hS.1
 have O:∀j∈xs++[k],j.length<=maxLen:=by
  intro j hj;rw[Bi,A7]at hj;rcases hj with hj|rfl
  ·exact hS.2.1 j hj
  ·exact G
 have q4:((xs++[k]).flatMap fun k=>[Value.string (bs k)])=(xs.flatMap fun k=>[Value.string (bs k)])++[Value.string (bs k)]:=by simp
 have HX:=Ao hx;rcases hS.2.2 with⟨rfl,rfl⟩|⟨r,D,rfl,hr,X,hD⟩
 ·have N:=fun w:World=>DX (P:=prog) w 176 9 3 none underlying176;have j3:=@run_makeMap prog;clear hx c0;go_enter func107,ntmps107;go_wp2_with (first|(go_at_call 75;refine hF.mono ?_;rintro e w9 ⟨rfl,d⟩;have z:=hB.below d;have f:=hS.below d;have q6:=d.size;have g0:w9.cell? ⟨sb,o,none⟩=some (.map none):=(z.cell o).trans h;have g1:w9.cell? ⟨sb,o+1,none⟩=some (.slice ao 0 cap):=(z.cell (o+1)).trans h1;have S:=z.lt;have f0:=z.frozen;have Z:sb≠w9.heap.size:=(by omega);have Y:((w9.setCell ⟨sb,o,none⟩ (.map (some w9.heap.size))).alloc (.map #[] 0)).ownsMap (H:=Unit) prog 9 (plainElem prog 3) w9.heap.size 0 (.map []):=(Nw _ _ _ _);have q1:Aw ((w9.setCell ⟨sb,o,none⟩ (.map (some w9.heap.size))).alloc (.map #[] 0)) sb (cs.set o (.map (some w9.heap.size))) t:=(z.setCell o (.map (some w9.heap.size))).alloc (.map #[] 0);have Q:=Hp f.1 (k:=w9.heap.size) (Ab _);have q2:=(AJ f.1 ⟨sb,o,none⟩ (.map (some w9.heap.size)) (Av f.1 z ht)).alloc (.map #[] 0))|(at_mapUpdate;refine Fo _ rfl _ _ _ 176 rfl 9 3 fU underlying176 _ w9.heap.size 0 (.map []) rfl Y (by unfold maxLen;omega) _ _ _ rfl rfl J _ [] (C2 underlying3 (by decide)) ?_;intro w1 x v;have y:=q1.grown v (by simpa using Z.symm);have i:=q2.kept v (.inr Q);have d0:w1.cell? ⟨sb,o,none⟩=some (.map (some w9.heap.size)):=(by rw[y.cell o,CD (by omega)]);have d1:w1.cell? ⟨sb,o+1,none⟩=some (.slice ao 0 cap):=(by rw[y.cell (o+1),CB (by omega)];exact h1);have fB:=y.frozen;have q5:=y.lt)|(at_builtin;refine Bv _ rfl _ _ 31 rfl base 9 i1 _ 1 16 underlying31 M I L W rfl (by decide) _ 0 [] rfl (i.alloc _) ⟨w1.heap.size,0,none⟩ 1 1 [Value.string (bs k)] rfl (by decide) rfl (AS _ _ _) (by intro u A;simp at A;subst A;rfl) (by unfold maxLen;omega) (by omega) (by have:=v.size;simp at this;simp;omega) ?_;intro g a w2 l m V;have c:=(y.alloc _).grown m (Av i y ht);have e1:w2.cell? ⟨sb,o+1,none⟩=some (.slice ao 0 cap):=(by rw[c.cell (o+1),CB (by omega)];exact h1);have q0:=c.frozen));go_ret2;have j0:base<=w1.heap.size:=by have:=v.size;simp at this;omega
  refine⟨rfl,.map (some w9.heap.size),.slice (some ⟨g,0,none⟩) 1 a,c.setCell (o+1) _,⟨?_,O,.inr ⟨w9.heap.size,_,rfl,by omega,?_,Lc.nil.put k G HX.out⟩⟩,?_⟩
  ·simpa using AJ l ⟨sb,o+1,none⟩ _ (Av l c ht)
  ·have h2:=(x.alloc _).kept m (FG Q);simpa using Fa h2 (Bg.setCell (b:=sb) w2 (p:=⟨sb,o+1,none⟩) rfl _) Z.symm
  ·have B:=v.size;have R:=m.size;simp at B R;have k1:A3 (fun q=>q=sb\/AN (.map none)=some q\/(Value.slice ao 0 cap).ownBlock=some q) w w1:=(((A3.ab d).setCell (p:=⟨sb,o,none⟩) (.inl (.inl rfl)) _).alloc _).grown v (fun q hq=>.inr (by simp at hq;omega));refine⟨((k1.alloc _).grown m (fun q hq=>.inl (.inr (.inr hq)))).setCell (p:=⟨sb,o+1,none⟩) (.inl (.inl rfl)) _,.inr (fun q hq=>by simp[AN]at hq;omega),?_⟩;rcases V with K|K
   ·exact .inl K
   ·exact .inr (fun q hq=>by simp[Value.ownBlock]at hq;simp at K;omega)
 ·obtain⟨hh,ha⟩:=hD.2 k G;rw[A5 hx]at hh;have N:=fun w:World=>DX (P:=prog) w 176 9 3 (some r) underlying176;have q8:(Lit.int .i64 (xs.length:Int)).wf=true:=Hg (n:=(xs.length:Int)) ⟨by omega,by omega⟩;clear hx c0;go_enter func107,ntmps107;go_wp2_with (first|(go_at_call 75;refine hF.mono ?_;rintro e w9 ⟨rfl,d⟩;have z:=hB.below d;have f:=hS.below d;have q6:=d.size;have g0:w9.cell? ⟨sb,o,none⟩=some (.map (some r)):=(z.cell o).trans h;have g1:w9.cell? ⟨sb,o+1,none⟩=some (.slice ao xs.length cap):=(z.cell (o+1)).trans h1;have S:=z.lt;have f0:=z.frozen;have s:=Fy X d;have E:=E9 s z;have Q:=Iw s f.1)|(at_mapUpdate;refine Fo _ rfl _ _ _ 176 rfl 9 3 fU underlying176 _ r xs.length D rfl s (by unfold maxLen;omega) _ _ _ rfl rfl J _ [] (C2 underlying3 q8) ?_;intro w1 x v;have y:=z.grown v (by simpa using E.symm);have i:=f.1.kept v (.inr Q);have d1:w1.cell? ⟨sb,o+1,none⟩=some (.slice ao xs.length cap):=((y.cell (o+1)).trans h1);have fB:=y.frozen;have q5:=y.lt)|(at_builtin;refine Bv _ rfl _ _ 31 rfl base 9 i1 _ 1 16 underlying31 M I L W rfl (by decide) _ xs.length _ rfl (i.alloc _) ⟨w1.heap.size,0,none⟩ 1 1 [Value.string (bs k)] rfl (by decide) rfl (AS _ _ _) (by intro u A;simp at A;subst A;rfl) (by unfold maxLen;omega) (by omega) (by have:=v.size;simp;omega) ?_;intro g a w2 l m V;have c:=(y.alloc _).grown m (Av i y ht);have e1:w2.cell? ⟨sb,o+1,none⟩=some (.slice ao xs.length cap):=((c.cell (o+1)).trans h1);have q0:=c.frozen));go_ret2;have q9:=v.size;have C:=m.size;simp at C;have q7:cs.set o (.map (some r))=cs:=by obtain⟨j2,q3⟩:=List.getElem?_eq_some_iff.1 h;rw[<-q3,Dh]
  refine⟨rfl,.map (some r),.slice (some ⟨g,0,none⟩) (xs.length+1) a,by rw[q7];exact c.setCell (o+1) _,⟨?_,O,.inr ⟨r,_,rfl,hr,?_,hD.put k G HX.out⟩⟩,?_⟩
  ·rw[q4];simpa using AJ l ⟨sb,o+1,none⟩ _ (Av l c ht)
  ·have h2:=(x.alloc _).kept m (FG Q);simpa using Fa h2 (Bg.setCell (b:=sb) w2 (p:=⟨sb,o+1,none⟩) rfl _) E.symm
  ·have k1:A3 (fun q=>q=sb\/AN (.map (some r))=some q\/(Value.slice ao xs.length cap).ownBlock=some q) w w1:=(A3.ab d).grown v (fun q hq=>.inl (.inr (.inl hq)));refine⟨((k1.alloc _).grown m (fun q hq=>.inl (.inr (.inr hq)))).setCell (p:=⟨sb,o+1,none⟩) (.inl (.inl rfl)) _,.inl rfl,?_⟩;rcases V with K|K
   ·exact .inl K
   ·exact .inr (fun q hq=>by simp[Value.ownBlock]at hq;simp at K;omega)
theorem R0(w:World)(base sb o:Nat)(cs:List Value)(t:TypeId)(mv lv:Value)(xs:List B8)(k:B8)(y:Aw w sb cs t)(z:cs[o]? =some mv)(h1:cs[o+1]? =some lv)(hS:Cu w base mv lv xs)(u:k.length<=maxLen)(hn:xs.length<=1000000000000)(ht:t≠9)(v:base<=w.heap.size):
 Calls prog 107 #[.pointer (some ⟨sb,o,none⟩),(.string (bs k))] w fun e w'=>e=.returned (.tuple #[.int .i64 (Ci (CO xs k) k:Nat),.bool (decide (k∉xs))])/\
  ∃q lv',Aw w' sb ((cs.set o q).set (o+1) lv') t/\Cu w' base q lv' (CO xs k)/\Cs w w' sb mv lv q lv':=by
 by_cases hx:k∈xs
 ·refine(iC w base sb o mv lv xs k ((y.cell o).trans z) hS u hx).mono ?_;rintro e w' ⟨rfl,j⟩;refine⟨by simp[CO,hx],mv,lv,?_,?_,Cs.still j sb mv lv⟩
  ·rw[Nr cs o mv lv z h1];exact y.below j
  ·rw[CO,Ai hx];exact hS.below j
 ·refine(iG w base sb o cs t mv lv xs k y z h1 hS u hx hn ht v).mono ?_;rintro e w' ⟨rfl,q,lv',a,b,c⟩;refine⟨?_,q,lv',a,?_,c⟩
  ·rw[CO,Af hx,Gd xs k hx];simp[hx]
  ·rw[CO,Af hx];exact b
end
end Go.Proofs.YtpbfiffgcgnidaaGreatDoor
