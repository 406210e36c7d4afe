import Derived.Test.YtpbfiffgcgnidaaGreatYal
import Derived.WideKeyArr
import Derived.DeepKeys4
import Derived.Laws.Rows
import Derived.Laws.Tables
import Derived.Laws.CopyOwn
import Derived.Laws.ResultCell
import Derived.Test.YtpbfiffgcgnidaaGreatY10
namespace Go.Proofs.YtpbfiffgcgnidaaGreat
set_option maxRecDepth 100000
set_option maxHeartbeats 4000000
set_option linter.unusedSectionVars false
set_option linter.unusedSimpArgs false
open Go.Proofs.Tryz
section
open Go.RowKit Go.WideMaps Go.Maps
structure Only(S:Nat->Prop)(w w':World):Prop where
 os:w'.os=w.os
 tape:w'.tape=w.tape
 output:w'.output=w.output
 size:w.heap.size<=w'.heap.size
 block:∀k,k<w.heap.size->¬S k->w'.heap[k]? =w.heap[k]?
theorem Only.of_below{S:Nat->Prop}{w w':World}(h:Below w.heap.size w w'):Only S w w':=⟨h.os,h.tape,h.output,h.size,fun k hk _=>h.block k hk⟩
theorem Only.of_grown{S:Nat->Prop}{w w':World}{row:Option Nat}(h:w.grownBy w' row)(hS:∀k,row=some k->S k):Only S w w':=⟨h.os,h.tape,h.output,h.size,fun k hk hn=>h.block k hk (fun e=>hn (hS k e.symm))⟩
theorem Only.trans{S S':Nat->Prop}{w w1 w2:World}(h:Only S w w1)(h':Only S' w1 w2)(hS:∀k,k<w.heap.size->S' k->S k):Only S w w2:=
 ⟨h'.os.trans h.os,h'.tape.trans h.tape,h'.output.trans h.output,Nat.le_trans h.size h'.size,fun k hk hn=>(h'.block k (Nat.lt_of_lt_of_le hk h.size) (fun e=>hn (hS k hk e))).trans (h.block k hk hn)⟩
theorem Only.mono{S S':Nat->Prop}{w w':World}(h:Only S w w')(hS:∀k,S k->S' k):Only S' w w':=⟨h.os,h.tape,h.output,h.size,fun k hk hn=>h.block k hk (fun e=>hn (hS k e))⟩
theorem Only.setCell{S:Nat->Prop}{w w':World}(h:Only S w w'){p:Addr}(hp:S p.block\/w.heap.size<=p.block)(u:Value):Only S w (w'.setCell p u):=
 ⟨h.os,h.tape,h.output,by rw[show(w'.setCell p u).heap.size=w'.heap.size by simp[World.setCell]];exact h.size,fun k hk hn=>(Below.heap_setCell w' p u k (by
   rintro rfl;rcases hp with hp|hp
   ·exact hn hp
   ·omega)).trans (h.block k hk hn)⟩
theorem Only.alloc{S:Nat->Prop}{w w':World}(h:Only S w w')(o:Obj):Only S w (w'.alloc o):=
 ⟨h.os,h.tape,h.output,by have:=h.size;simp;omega,fun k hk hn=>(Below.heap_alloc w' o k (by have:=h.size;omega)).trans (h.block k hk hn)⟩
theorem Only.drew{S:Nat->Prop}{w w':World}(h:Only S w w'):Only S w w'.drew:=⟨h.os,h.tape,h.output,h.size,h.block⟩
theorem Only.below{S:Nat->Prop}{w w':World}{B:Nat}(h:Only S w w')(hB:B<=w.heap.size)(hS:∀k,S k->B<=k):Below B w w':=⟨h.os,h.tape,h.output,h.size,fun k hk=>h.block k (by omega) (fun e=>by have:=hS k e;omega)⟩
theorem Blk.only{S:Nat->Prop}{w w':World}{b:Nat}{cs:List Value}{t:TypeId}(h:Blk w b cs t)(ho:Only S w w')(hn:¬S b):Blk w' b cs t:=by have hlt:=h.lt;unfold Blk at*;rw[ho.block b hlt hn,h]
theorem own_only{S:Nat->Prop}{w w':World}{base:Nat}{e:TypeId}{size:Nat}{v:Value}{n:Nat}{xs:List Value}(h:w.ownsRow base e size v n xs)(ho:Only S w w')(hn:∀k,v.ownBlock=some k->¬S k):w'.ownsRow base e size v n xs:=by
 refine⟨h.1,?_⟩;rcases h.2 with hz|⟨g,cap,cur,rfl,hb,hg,r⟩
 ·exact .inl hz
 ·refine .inr ⟨g,cap,cur,rfl,hb,?_,r⟩;rw[ho.block g (Array.getElem?_eq_some_iff.1 hg).1 (hn g rfl),hg]
def Typed(w:World)(S:Nat->Prop)(e:TypeId):Prop:=∀k,S k->∀cur z,w.heap[k]? ≠some (.cells cur e z)
theorem own_typed{S:Nat->Prop}{w:World}{base:Nat}{e:TypeId}{size:Nat}{v:Value}{n:Nat}{xs:List Value}(h:w.ownsRow base e size v n xs)(ht:Typed w S e):∀k,v.ownBlock=some k->¬S k:=by
 intro k hk hS;rcases h.2 with⟨rfl,_⟩|⟨g,cap,cur,rfl,_,hg,_⟩
 ·simp[Value.ownBlock]at hk
 ·simp only[Value.ownBlock,Option.some.injEq]at hk;subst hk;exact ht g hS _ _ hg
section
variable {P:Program} (w:World)
theorem append_where(t ty e:TypeId)(i:TypeInfo)(z:Value)(base bytes:Nat)(ht:P.underlying t=some (.slice e))(hi:P.info? e=some i)(hz:i.zero=some z)(hby:i.bytes=bytes)
 (v:Value)(n:Nat)(xs:List Value)(hown:w.ownsRow base e i.size v n xs)(a:Addr)(m c:Nat)(news:List Value)(hm:0<m)(hl:news.length=m*i.size)(hnews:∀j u,news[j]? =some u->w.cell? (a.add j)=some u)(h1:∀u∈news,u.oneCell'=true)
 (h63:n+m<=maxLen)(hbytes:(n+m)*bytes<=140737488355328)(v':Value)(w':World)(hr:(Builtin.append_ #[t,t] ty #[v,.slice (some a) m c]).run P w=.ok v' w'):v'.ownBlock=v.ownBlock\/v'.ownBlock=some w.heap.size:=by
 subst hby;have h64:=h63;unfold maxLen at h64;rcases hown.2 with⟨rfl,rfl⟩|⟨g,cap,cur,rfl,_,hg,_,_,hcs,_⟩
 ·rw[run_append_nil (P:=P) w t ty e i z ht hi hz a m c news hl hnews hm (by omega) (by rw[Nat.zero_add]at hbytes;omega)]at hr
  injection hr with h2
  rw[<-h2];exact .inr rfl
 ·by_cases hroom:n+m<=cap
  ·rw[run_append_room (P:=P) w t ty e i ht hi g n cap cur hg a m c news hl hnews h1 hroom (by rw[hl,hcs,<-Nat.add_mul];exact Nat.mul_le_mul_right _ hroom)]at hr
   injection hr with h2
   rw[<-h2];exact .inl rfl
  ·rw[run_append_grow (P:=P) w t ty e i z ht hi hz ⟨g,0,none⟩ n cap xs hown.1 (hown.cells (g:=g) rfl) a m c news hl hnews (by omega) (by omega) (growslice_fits (by omega) hbytes)]at hr
   injection hr with h2
   rw[<-h2];exact .inr rfl
theorem wp_append_at{o:Oper}{a:Act}{K:Act->World->Prop}{Q:Exit->Act->World->Prop}(s x:Operand)(t:TypeId)(hop:o.op=.call { callee:=.builtin .append,args:=#[s,x],argTypes:=#[t,t] })
 (base:Nat)(e:TypeId)(i:TypeInfo)(z:Value)(size bytes:Nat)(ht:P.underlying t=some (.slice e))(hi:P.info? e=some i)(hz:i.zero=some z)(hsize:i.size=size)(hby:i.bytes=bytes)(hzs:z.cells.size=size)(hsz:0<size)
 (v:Value)(n:Nat)(xs:List Value)(hs:a.eval s=v)(hown:w.ownsRow base e size v n xs)(ad:Addr)(m c:Nat)(news:List Value)(hx:a.eval x=.slice (some ad) m c)(hm:0<m)(hl:news.length=m*size)(hnews:∀j u,news[j]? =some u->w.cell? (ad.add j)=some u)(h1:∀u∈news,u.oneCell'=true)
 (h63:n+m<=maxLen)(hbytes:(n+m)*bytes<=140737488355328)(hbase:base<=w.heap.size)
 (hK:∀g cap w',w'.ownsRow base e size (.slice (some ⟨g,0,none⟩) (n+m) cap) (n+m) (xs++news)->w.grownBy w' v.ownBlock->(some g=v.ownBlock\/g=w.heap.size)->K (a.put o.dst (.slice (some ⟨g,0,none⟩) (n+m) cap)) w'):o.wp P a w K Q:=by
 obtain⟨v',w',hr,h2,h3,_⟩:=run_append_own (P:=P) w base t o.type e i z size bytes ht hi hz hsize hby hzs hsz v n xs hown ad m c news hl hnews h1 h63 hbytes hbase;subst hsize;have hwh:=append_where (P:=P) w t o.type e i z base bytes ht hi hz hby v n xs hown ad m c news hm hl hnews h1 h63 hbytes v' w' hr;unfold Oper.wp execOp;simp only[hop,resolve,invoke,builtin,Sem.run_bind,Sem.run_pure,Result.andThen_ok,List.map_toArray,List.map_cons,List.map_nil,hs,hx,hr];rcases h2.2 with⟨_,hn⟩|⟨g,cap,cur,rfl,_⟩
 ·omega
 ·exact hK g cap w' h2 h3 (by
   rcases hwh with h|h
   ·exact .inl h
   ·exact .inr (by simpa[Value.ownBlock]using h))
theorem step_append_at{ops:Array Oper}{o:Oper}{a:Act}{K:Act->World->Prop}{Q:Exit->Act->World->Prop}{E:Prop}
 (hgd:o.guard=none)(s x:Operand)(t:TypeId)(hop:o.op=.call { callee:=.builtin .append,args:=#[s,x],argTypes:=#[t,t] })
 (base:Nat)(e:TypeId)(i:TypeInfo)(z:Value)(size bytes:Nat)(ht:P.underlying t=some (.slice e))(hi:P.info? e=some i)(hz:i.zero=some z)(hsize:i.size=size)(hby:i.bytes=bytes)(hzs:z.cells.size=size)(hsz:0<size)
 (v:Value)(n:Nat)(xs:List Value)(hs:a.eval s=v)(hown:w.ownsRow base e size v n xs)(ad:Addr)(m c:Nat)(news:List Value)(hx:a.eval x=.slice (some ad) m c)(hm:0<m)(hl:news.length=m*size)(hnews:∀j u,news[j]? =some u->w.cell? (ad.add j)=some u)(h1:∀u∈news,u.oneCell'=true)
 (h63:n+m<=maxLen)(hbytes:(n+m)*bytes<=140737488355328)(hbase:base<=w.heap.size)
 (hK:∀g cap w',w'.ownsRow base e size (.slice (some ⟨g,0,none⟩) (n+m) cap) (n+m) (xs++news)->w.grownBy w' v.ownBlock->(some g=v.ownBlock\/g=w.heap.size)->K (a.put o.dst (.slice (some ⟨g,0,none⟩) (n+m) cap)) w'):
 if Region.wanted o (yielded ops a.tmps)=true then Oper.wp P o a w K Q else E:=by
 have hw:Region.wanted o (yielded ops a.tmps)=true:=by simp[Region.wanted,hgd]
 rw[if_pos hw];exact wp_append_at w s x t hop base e i z size bytes ht hi hz hsize hby hzs hsz v n xs hs hown ad m c news hx hm hl hnews h1 h63 hbytes hbase hK
theorem wpList_append_at{ops:Array Oper}{rest:List Oper}{o:Oper}{a:Act}{Q:Exit->Act->World->Prop}(hgd:o.guard=none)(s x:Operand)(t:TypeId)(hop:o.op=.call { callee:=.builtin .append,args:=#[s,x],argTypes:=#[t,t] })
 (base:Nat)(e:TypeId)(i:TypeInfo)(z:Value)(size bytes:Nat)(ht:P.underlying t=some (.slice e))(hi:P.info? e=some i)(hz:i.zero=some z)(hsize:i.size=size)(hby:i.bytes=bytes)(hzs:z.cells.size=size)(hsz:0<size)
 (v:Value)(n:Nat)(xs:List Value)(hs:a.eval s=v)(hown:w.ownsRow base e size v n xs)(ad:Addr)(m c:Nat)(news:List Value)(hx:a.eval x=.slice (some ad) m c)(hm:0<m)(hl:news.length=m*size)(hnews:∀j u,news[j]? =some u->w.cell? (ad.add j)=some u)(h1:∀u∈news,u.oneCell'=true)
 (h63:n+m<=maxLen)(hbytes:(n+m)*bytes<=140737488355328)(hbase:base<=w.heap.size)
 (h:∀g cap w',w'.ownsRow base e size (.slice (some ⟨g,0,none⟩) (n+m) cap) (n+m) (xs++news)->w.grownBy w' v.ownBlock->(some g=v.ownBlock\/g=w.heap.size)->wpList P ops Q rest (a.put o.dst (.slice (some ⟨g,0,none⟩) (n+m) cap)) w'):wpList P ops Q (o::rest) a w:=
 wpList_plain hgd fun _ hK=>wp_append_at w s x t hop base e i z size bytes ht hi hz hsize hby hzs hsz v n xs hs hown ad m c news hx hm hl hnews h1 h63 hbytes hbase fun g cap w' h2 h3 h4=>hK _ _ (h g cap w' h2 h3 h4)
end
end
section
open Go.RowKit Go.WideMaps Go.Maps
def posG{α:Type}[DecidableEq α](xs:List α)(k:α):Nat:=if k∈xs then xs.idxOf k else 0
theorem posG_new{α:Type}[DecidableEq α](xs:List α)(k:α)(hk:k∉xs):posG (xs++[k]) k=xs.length:=by simp[posG,List.idxOf_append,hk]
theorem posG_old{α:Type}[DecidableEq α](xs:List α)(k j:α)(hj:¬j=k):posG (xs++[k]) j=posG xs j:=by
 by_cases hx:j∈xs
 ·simp[posG,hx,List.idxOf_append]
 ·simp[posG,hx,hj]
def addG{α:Type}[DecidableEq α](xs:List α)(k:α):List α:=if k∈xs then xs else xs++[k]
theorem blk_in{w:World}{p:Addr}{v:Value}(h:w.cell? p=some v):p.block<w.heap.size:=by apply Classical.byContradiction;intro hn;have h0:w.heap[p.block]? =none:=Array.getElem?_eq_none (by omega);simp[World.cell?,h0]at h
def I64(n:Int):Prop:= -9223372036854775808<=n/\n<=9223372036854775807
theorem I64.wf{n:Int}(h:I64 n):(Lit.int .i64 n).wf=true:=WalkArith.wf_i64 h
structure R3 where
 a:Int
 b:Int
 c:Int
structure R3.Wf(r:R3):Prop where
 a:I64 r.a
 b:I64 r.b
 c:I64 r.c
def cellsR(r:R3):List Value:=[.int .i64 r.a,.int .i64 r.b,.int .i64 r.c]
def valR(r:R3):Value:=.agg #[.int .i64 r.a,.int .i64 r.b,.int .i64 r.c]
def litR(r:R3):Lit:=.string (keyBytes [.int .i64 r.a,.int .i64 r.b,.int .i64 r.c])
structure A4 where
 n:Int
 r:R3
structure A4.Wf(x:A4):Prop where
 n:I64 x.n
 r:x.r.Wf
def cellsA(x:A4):List Value:=.int .i64 x.n::cellsR x.r
def valA(x:A4):Value:=.agg #[.int .i64 x.n,.int .i64 x.r.a,.int .i64 x.r.b,.int .i64 x.r.c]
def litA(x:A4):Lit:=.string (keyBytes [.int .i64 x.n,.int .i64 x.r.a,.int .i64 x.r.b,.int .i64 x.r.c])
def litI(k:Nat):Lit:=.int .i64 (k:Nat)
theorem laidOutQ:laidOutB prog=true:=by kernel_rfl
theorem klawR:KeyLaw prog 113:=deep_law_laid laidOutQ (m:=3) (by decide) (by decide+kernel) (by kernel_rfl) (by kernel_rfl)
theorem klawA:KeyLaw prog 115:=deep_law_laid laidOutQ (m:=4) (by decide) (by decide+kernel) (by kernel_rfl) (by kernel_rfl)
theorem lawR:Keyed prog 113:=Keyed.of_law klawR
theorem lawA:Keyed prog 115:=Keyed.of_law klawA
theorem lawI:Keyed prog 3:=int_keyed underlying3
theorem lawS:Keyed prog 9:=string_keyed underlying9
theorem keyR(k:R3):WideAt.IsKeyLit (litR k):=by simp[litR,WideAt.IsKeyLit]
theorem keyA(k:A4):WideAt.IsKeyLit (litA k):=by simp[litA,WideAt.IsKeyLit]
theorem keyI(k:Nat):WideAt.IsKeyLit (litI k):=by simp[litI,WideAt.IsKeyLit]
theorem keyS(k:B8):WideAt.IsKeyLit (.string k):=by simp[WideAt.IsKeyLit]
theorem keyOfI(k:Nat)(h:k<=1000000000000000):keyOf prog 3 (.int .i64 (k:Nat))=some (litI k):=keyOf_int_mk underlying3 (I64.wf ⟨by omega,by omega⟩)
theorem keyOfS(k:B8)(h:k.length<=maxLen):keyOf prog 9 (.string (bs k))=some (.string k):=keyOf_string_mk underlying9 (by rw[bs_size];exact h)
theorem typesPos:∃m,prog.types.size=m+1:=⟨prog.types.size-1,by
 have h:0<prog.types.size:=of_decide_eq_true (by kernel_rfl)
 omega⟩
theorem ktR:prog.keyType 113=true:=by kernel_rfl
theorem ktA:prog.keyType 115=true:=by kernel_rfl
theorem csR:prog.cellsOf 113=3:=by kernel_rfl
theorem csA:prog.cellsOf 115=4:=by kernel_rfl
theorem csT:prog.cellsOf 111=1:=by kernel_rfl
theorem csI:prog.cellsOf 3=1:=by kernel_rfl
theorem rowLits(k:R3)(h:k.Wf)(m:Nat):prog.keyLits (m+2) 113 (cellsR k)=some [.int .i64 k.a,.int .i64 k.b,.int .i64 k.c]:=by unfold Program.keyLits;simp only[underlying113];rw[if_pos (by rw[csR];rfl),show List.range 3=[0,1,2] from rfl,List.mapM_cons,List.mapM_cons,List.mapM_cons,List.mapM_nil];simp[csT,cellsR,Program.keyLits,underlying111,h.a.wf,h.b.wf,h.c.wf]
theorem keyOfR(k:R3)(h:k.Wf):keyOf prog 113 (valR k)=some (litR k):=by obtain⟨m,hm⟩:=typesPos;have hl:=rowLits k h m;unfold keyOf;simp only[underlying113];rw[if_pos (by simp[ktR,Value.formed,valR,underlying113,csR]),hm];show(prog.keyLits (m+2) 113 (cellsR k)).map _=_;rw[hl];rfl
theorem atomLits(k:A4)(h:k.Wf)(m:Nat):prog.keyLits (m+3) 115 (cellsA k)=some [.int .i64 k.n,.int .i64 k.r.a,.int .i64 k.r.b,.int .i64 k.r.c]:=by
 have hr:=rowLits k.r h.r m;have hn:prog.keyLits (m+2) 3 [.int .i64 k.n]=some [.int .i64 k.n]:=by unfold Program.keyLits;simp[underlying3,h.n.wf]
 unfold Program.keyLits;simp only[underlying115];rw[if_pos ⟨by rw[csA];rfl,by decide+kernel⟩];simp only[List.mapM_cons,List.mapM_nil,csI,csR,cellsA,List.drop_zero,List.take_succ_cons,List.take_zero,List.drop_succ_cons];rw[hn];have hc:(cellsR k.r).take 3=cellsR k.r:=rfl;rw[hc,hr];rfl
theorem keyOfA(k:A4)(h:k.Wf):keyOf prog 115 (valA k)=some (litA k):=by have hp:1<prog.types.size:=of_decide_eq_true (by kernel_rfl);obtain⟨m,hm⟩:∃m,prog.types.size=m+2:=⟨prog.types.size-2,by omega⟩;have hl:=atomLits k h m;unfold keyOf;simp only[underlying115];rw[if_pos (by simp[ktA,Value.formed,valA,underlying115,csA]),hm];show(prog.keyLits (m+3) 115 (cellsA k)).map _=_;rw[hl];rfl
theorem injR(j k:R3)(hj:j.Wf)(hk:k.Wf)(h:litR j=litR k):j=k:=by have e:=klawR.inj (keyOfR j hj) (h▸keyOfR k hk);simp only[valR,Value.agg.injEq]at e;cases j;cases k;simp at e;simp[e]
theorem injA(j k:A4)(hj:j.Wf)(hk:k.Wf)(h:litA j=litA k):j=k:=by have e:=klawA.inj (keyOfA j hj) (h▸keyOfA k hk);simp only[valA,Value.agg.injEq]at e;obtain⟨n,⟨a,b,c⟩⟩:=j;obtain⟨n',⟨a',b',c'⟩⟩:=k;simp at e;simp[e]
theorem injI(j k:Nat)(_:j<=1000000000000000)(_:k<=1000000000000000)(h:litI j=litI k):j=k:=by simp[litI]at h;omega
theorem injS(j k:B8)(_:j.length<=maxLen)(_:k.length<=maxLen)(h:Lit.string j=.string k):j=k:=by injection h
theorem map_only{S:Nat->Prop}{w w':World}{P:Program}{k:TypeId}{R:Value->Option (DataW Unit×List MemPlace)}{r n:Nat}{D:DataW Unit}(h:w.ownsMap P k R r n D)(ho:Only S w w')(hn:¬S r):w'.ownsMap P k R r n D:=by have hlt:=h.lt;obtain⟨es,clock,hh,rest⟩:=h;exact⟨es,clock,by rw[ho.block r hlt hn];exact hh,rest⟩
def mapBlock:Value->Option Nat
 |.map m=>m
 |_=>none
structure AddFrame(w w':World)(sb:Nat)(mv lv mv' lv':Value):Prop where
 only:Only (fun q=>q=sb\/mapBlock mv=some q\/lv.ownBlock=some q) w w'
 map:mapBlock mv'=mapBlock mv\/∀q,mapBlock mv'=some q->w.heap.size<=q
 row:lv'.ownBlock=lv.ownBlock\/∀q,lv'.ownBlock=some q->w.heap.size<=q
theorem Only.grown{S:Nat->Prop}{w w1 w2:World}{row:Option Nat}(h:Only S w w1)(hg:w1.grownBy w2 row)(hS:∀q,row=some q->S q\/w.heap.size<=q):Only S w w2:=
 ⟨hg.os.trans h.os,hg.tape.trans h.tape,hg.output.trans h.output,Nat.le_trans h.size hg.size,fun q hq hn=>(hg.block q (Nat.lt_of_lt_of_le hq h.size) (fun e=>by
   rcases hS q e.symm with h1|h1
   ·exact hn h1
   ·omega)).trans (h.block q hq hn)⟩
theorem AddFrame.still{w w':World}(h:Below w.heap.size w w')(sb:Nat)(mv lv:Value):AddFrame w w' sb mv lv mv lv:=⟨Only.of_below h,.inl rfl,.inl rfl⟩
theorem set_two(cs:List Value)(o:Nat)(mv lv:Value)(h0:cs[o]? =some mv)(h1:cs[o+1]? =some lv):(cs.set o mv).set (o+1) lv=cs:=by
 obtain⟨l0,e0⟩:=List.getElem?_eq_some_iff.1 h0;obtain⟨l1,e1⟩:=List.getElem?_eq_some_iff.1 h1;have a:cs.set o mv=cs:=by rw[<-e0,List.set_getElem_self]
 rw[a,<-e1,List.set_getElem_self]
theorem made_at(w:World)(k:TypeId)(R:Value->Option (DataW Unit×List MemPlace))(p:Addr):((w.setCell p (.map (some w.heap.size))).alloc (.map #[] 0)).ownsMap (H:=Unit) prog k R w.heap.size 0 (.map []):=by
 have h:=World.ownsMap_made (H:=Unit) (w.setCell p (.map (some w.heap.size))) prog k R;have e:(w.setCell p (.map (some w.heap.size))).heap.size=w.heap.size:=by simp[World.setCell]
 rwa [e]at h
theorem infoI:(prog.info? 3).map (fun i=>(i.zero,i.size,i.bytes))=some (some (.int .i64 0),1,8):=by kernel_rfl
theorem infoS:(prog.info? 9).map (fun i=>(i.zero,i.size,i.bytes))=some (some (.string ⟨#[]⟩),1,16):=by kernel_rfl
theorem infoR:(prog.info? 113).map (fun i=>(i.zero,i.size,i.bytes))=some (some (.agg #[.int .i64 0,.int .i64 0,.int .i64 0]),3,24):=by kernel_rfl
theorem infoA:(prog.info? 115).map (fun i=>(i.zero,i.size,i.bytes))=some (some (.agg #[.int .i64 0,.int .i64 0,.int .i64 0,.int .i64 0]),4,32):=by kernel_rfl
end
section
attribute [local go_sem] drewN_alloc drewN_setCell
open Go.RowKit Go.WideMaps Go.Maps
variable [DecidableEq R3] [DecidableEq A4]
def MapOfR(D:DataW Unit)(xs:List R3):Prop:=
 IsMap D/\∀k:R3,k.Wf->Maps.has D (litR k)=decide (k∈xs)/\D.atKey (litR k) (.lit (.int .i64 0))=.lit (.int .i64 (posG xs k))
theorem MapOfR.nil:MapOfR (.map []) []:=⟨isMap_empty,fun _ _=>⟨rfl,rfl⟩⟩
theorem MapOfR.put{D:DataW Unit}{xs:List R3}(h:MapOfR D xs)(k:R3)(hw:k.Wf)(hk:k∉xs):MapOfR (D.put (litR k) (.lit (.int .i64 xs.length))) (xs++[k]):=by
 refine⟨h.1.put _ _,fun j hj=>?_⟩;by_cases he:j=k
 ·subst he;rw[has_put_same h.1 (keyR j),atKey_put_same h.1 (keyR j),posG_new xs j hk];exact⟨by simp,rfl⟩
 ·have hne:(litR j)≠(litR k):=fun e=>he (injR j k hj hw e);rw[has_put_other hne,atKey_put_other hne,(h.2 j hj).1,(h.2 j hj).2,posG_old xs k j he];exact⟨by simp[he],rfl⟩
def SetIsR(w:World)(base:Nat)(mv lv:Value)(xs:List R3):Prop:=
 w.ownsRow base 113 3 lv xs.length (xs.flatMap fun k=>(cellsR k))/\(∀k∈xs,k.Wf)/\
 ((mv=.map none/\xs=[])\/∃r D,mv=.map (some r)/\base<=r/\w.ownsMap (H:=Unit) prog 113 (plainElem prog 3) r xs.length D/\MapOfR D xs)
theorem SetIsR.nil(w:World)(base:Nat):SetIsR w base (.map none) (.slice none 0 0) []:=⟨World.ownsRow_nil _ _ _ _,by simp,.inl ⟨rfl,rfl⟩⟩
theorem SetIsR.below{base:Nat}{w w':World}{mv lv:Value}{xs:List R3}(h:SetIsR w base mv lv xs)(hb:Below w.heap.size w w'):SetIsR w' base mv lv xs:=by
 refine⟨own_below h.1 hb,h.2.1,?_⟩;rcases h.2.2 with h2|⟨r,D,hm,hr,ho,hD⟩
 ·exact .inl h2
 ·exact .inr ⟨r,D,hm,hr,map_below ho hb,hD⟩
theorem SetIsR.only{S:Nat->Prop}{base:Nat}{w w':World}{mv lv:Value}{xs:List R3}(h:SetIsR w base mv lv xs)(ho:Only S w w')(hl:∀q,lv.ownBlock=some q->¬S q)(hm:∀q,mapBlock mv=some q->¬S q):SetIsR w' base mv lv xs:=by
 refine⟨own_only h.1 ho hl,h.2.1,?_⟩;rcases h.2.2 with h2|⟨r,D,rfl,hr,hw,hD⟩
 ·exact .inl h2
 ·exact .inr ⟨r,D,rfl,hr,map_only hw ho (hm r rfl),hD⟩
theorem SetIsR.lt{base:Nat}{w:World}{mv lv:Value}{xs:List R3}(h:SetIsR w base mv lv xs):(∀q,lv.ownBlock=some q->base<=q/\q<w.heap.size)/\∀q,mapBlock mv=some q->base<=q/\q<w.heap.size:=by
 refine⟨fun q hq=>h.1.lt q hq,?_⟩;rcases h.2.2 with⟨rfl,_⟩|⟨r,D,rfl,hr,hw,hD⟩
 ·intro q hq;simp[mapBlock]at hq
 ·intro q hq;simp only[mapBlock,Option.some.injEq]at hq;subst hq;exact⟨hr,hw.lt⟩
theorem SetIsR.alloc{base:Nat}{w:World}{mv lv:Value}{xs:List R3}(h:SetIsR w base mv lv xs)(o:Obj):SetIsR (w.alloc o) base mv lv xs:=h.below (below_alloc w o)
theorem findR_c(w:World)(base sb o:Nat)(mv lv:Value)(xs:List R3)(k:R3)(c0:w.cell? ⟨sb,o,none⟩=some mv)(hS:SetIsR w base mv lv xs)(hk:k.Wf):
 Calls prog 161 #[.pointer (some ⟨sb,o,none⟩),(.agg #[.int .i64 k.a,.int .i64 k.b,.int .i64 k.c])] w fun e w'=>e=.returned (.tuple #[.int .i64 (posG xs k:Nat),.bool (decide (k∈xs))])/\Below w.heap.size w w':=by
 have hkey:keyOf prog 113 (.agg #[.int .i64 k.a,.int .i64 k.b,.int .i64 k.c])=some (litR k):=keyOfR k hk;have hsb:=blk_in c0;have hB0:=Below.refl w.heap.size w;have hB1:=below_alloc w (.cells #[.int .i64 k.a,.int .i64 k.b,.int .i64 k.c] 113);rcases hS.2.2 with⟨rfl,rfl⟩|⟨r,D,rfl,hr,hown,hD⟩
 ·have hnil:=fun w:World=>look_nil (w:=w) true lawR underlying147 (zero3 w) hkey;go_enter func161,ntmps161;go_wp2_with fail;go_region;go_wp2_with fail;go_ret2;exact⟨rfl,by first|exact hB0|exact hB1.drew⟩
 ·obtain⟨hh,ha⟩:=hD.2 k hk;obtain⟨p,HP⟩:∃p:Int,Hid (p=(posG xs k:Nat)):=⟨_,rfl⟩;rw[<-HP.out]at ha⊢;have look:∀W:World,W.ownsMap (H:=Unit) prog 113 (plainElem prog 3) r xs.length D->(Instr.lookup 147 (.map (some r)) (.agg #[.int .i64 k.a,.int .i64 k.b,.int .i64 k.c]) true).run prog W=.ok (.tuple #[.int .i64 p,.bool (decide (k∈xs))]) W:=by intro W hW;obtain⟨v,ps,hrun,hR⟩:=hW.look_ok lawR underlying147 (zero3 W) (plainElem_int underlying3 (by decide)) hkey;obtain⟨c,rfl,hc,_⟩:=plainElem_int_inv underlying3 hR;have e:=congrArg Prod.fst hc;simp only[]at e;rw[ha]at e;simp at e;rw[hrun,hh,<-e]
  have l0:=look w hown;have l1:=look (w.alloc (.cells #[.int .i64 k.a,.int .i64 k.b,.int .i64 k.c] 113)).drew (by exact hown.alloc _);clear look;go_enter func161,ntmps161;go_wp2_with fail;go_region;go_wp2_with fail;go_ret2;exact⟨rfl,by first|exact hB0|exact hB1.drew⟩
theorem lenR_c(w:World)(base sb o:Nat)(mv lv:Value)(xs:List R3)(c1:w.cell? ⟨sb,o+1,none⟩=some lv)(hS:SetIsR w base mv lv xs):
 Calls prog 68 #[.pointer (some ⟨sb,o,none⟩)] w fun e w'=>e=.returned (.int .i64 xs.length)/\w'=w:=by
 obtain⟨ao,cap,rfl⟩:=own_form hS.1;go_enter func68,ntmps68;go_wp2
 go_ret
 exact⟨rfl,rfl⟩
theorem addOldR(w:World)(base sb o:Nat)(mv lv:Value)(xs:List R3)(k:R3)(c0:w.cell? ⟨sb,o,none⟩=some mv)(hS:SetIsR w base mv lv xs)(hk:k.Wf)(hx:k∈xs):
 Calls prog 157 #[.pointer (some ⟨sb,o,none⟩),(.agg #[.int .i64 k.a,.int .i64 k.b,.int .i64 k.c])] w fun e w'=>e=.returned (.tuple #[.int .i64 (posG xs k),.bool false])/\Below w.heap.size w w':=by
 obtain⟨p,HP⟩:∃p:Int,Hid (p=(posG xs k:Nat)):=⟨_,rfl⟩;have hsb:=blk_in c0;have hB1:=below_alloc w (.cells #[.int .i64 k.a,.int .i64 k.b,.int .i64 k.c] 113);have hF0:=findR_c w base sb o mv lv xs k c0 hS hk;have hF1:=findR_c (w.alloc (.cells #[.int .i64 k.a,.int .i64 k.b,.int .i64 k.c] 113)) base sb o mv lv xs k (by rw[hB1.cell (p:=⟨sb,o,none⟩) hsb];exact c0) (hS.alloc _) hk;rw[decide_eq_true hx,<-HP.out]at hF0 hF1;rw[<-HP.out];go_enter func157,ntmps157;go_wp2_with (go_at_call 161;first|(refine hF0.mono ?_;rintro e w9 ⟨rfl,hB9⟩)|(refine hF1.mono ?_;rintro e w9 ⟨rfl,hB9⟩));go_ret2;exact⟨rfl,by first|exact hB9|exact hB1.trans (hB9.mono hB1.size)⟩
theorem addNewR(w:World)(base sb o:Nat)(cs:List Value)(t:TypeId)(mv lv:Value)(xs:List R3)(k:R3)(hB:Blk w sb cs t)(h0:cs[o]? =some mv)(h1:cs[o+1]? =some lv)(hS:SetIsR w base mv lv xs)(hk:k.Wf)(hx:k∉xs)(hn:xs.length<=1000000000000)(ht:t≠113)(hbw:base<=w.heap.size):
 Calls prog 157 #[.pointer (some ⟨sb,o,none⟩),(.agg #[.int .i64 k.a,.int .i64 k.b,.int .i64 k.c])] w fun e w'=>e=.returned (.tuple #[.int .i64 xs.length,.bool true])/\
  ∃mv' lv',Blk w' sb ((cs.set o mv').set (o+1) lv') t/\SetIsR w' base mv' lv' (xs++[k])/\AddFrame w w' sb mv lv mv' lv':=by
 have c0:w.cell? ⟨sb,o,none⟩=some mv:=(hB.cell o).trans h0;have hol:o+1<cs.length:=(List.getElem?_eq_some_iff.1 h1).1;have hkey:keyOf prog 113 (.agg #[.int .i64 k.a,.int .i64 k.b,.int .i64 k.c])=some (litR k):=keyOfR k hk;obtain⟨i1,hi1,hy0,hy1,hy2⟩:=info_parts infoR;obtain⟨pp,HP⟩:∃p:Int,Hid (p=(posG xs k:Nat)):=⟨_,rfl⟩;have hF:=findR_c (w.alloc (.cells #[.int .i64 k.a,.int .i64 k.b,.int .i64 k.c] 113)) base sb o mv lv xs k (((hB.alloc _).cell o).trans h0) (hS.alloc _) hk;rw[decide_eq_false hx,<-HP.out]at hF;obtain⟨ao,cap,rfl⟩:=own_form hS.1
 have hwx:∀j∈xs++[k],j.Wf:=by
  intro j hj;rw[List.mem_append,List.mem_singleton]at hj;rcases hj with hj|rfl
  ·exact hS.2.1 j hj
  ·exact hk
 have hfl:((xs++[k]).flatMap fun k=>(cellsR k))=(xs.flatMap fun k=>(cellsR k))++(cellsR k):=by simp
 have HX:=hid hx;have hsT:sb≠w.heap.size:=by have:=hB.lt;omega
 have hBa:=below_alloc w (.cells #[.int .i64 k.a,.int .i64 k.b,.int .i64 k.c] 113);rcases hS.2.2 with⟨rfl,rfl⟩|⟨r,D,rfl,hr,hown,hD⟩
 ·have hnil:=fun w:World=>run_eql_map_nil (P:=prog) w 147 113 3 none underlying147;have hmm:=@run_makeMap prog;clear hx c0;go_enter func157,ntmps157;go_wp2_with (go_at_call 161;refine hF.mono ?_;rintro e w9 ⟨rfl,hB9⟩;have hBw:=(hB.alloc (.cells #[.int .i64 k.a,.int .i64 k.b,.int .i64 k.c] 113)).below hB9;have hSw:=(hS.alloc (.cells #[.int .i64 k.a,.int .i64 k.b,.int .i64 k.c] 113)).below hB9;have hT9:Blk w9 w.heap.size (cellsR k) 113:=(Blk.new w (cellsR k) 113).below hB9;have hsa:=hBa.trans (hB9.mono hBa.size);have hs9:=hsa.size;have hTl:=hT9.lt;have hslt:=hBw.lt;have f0:=hBw.frozen;have y0:w9.cell? ⟨w.heap.size,0,none⟩=some (.int .i64 k.a):=hT9.cell 0;have y1:w9.cell? ⟨w.heap.size,1,none⟩=some (.int .i64 k.b):=hT9.cell 1;have y2:w9.cell? ⟨w.heap.size,2,none⟩=some (.int .i64 k.c):=hT9.cell 2;have g0:w9.cell? ⟨sb,o,none⟩=some (.map none):=(hBw.cell o).trans h0;have g1:w9.cell? ⟨sb,o+1,none⟩=some (.slice ao 0 cap):=(hBw.cell (o+1)).trans h1;have hsne:sb≠w9.heap.size:=(by omega));have hmade:=made_at w9 113 (plainElem prog 3) ⟨sb,o,none⟩;have hB0:Blk ((w9.setCell ⟨sb,o,none⟩ (.map (some w9.heap.size))).alloc (.map #[] 0)) sb (cs.set o (.map (some w9.heap.size))) t:=(hBw.setCell o (.map (some w9.heap.size))).alloc (.map #[] 0);have hT0:Blk ((w9.setCell ⟨sb,o,none⟩ (.map (some w9.heap.size))).alloc (.map #[] 0)) w.heap.size (cellsR k) 113:=(hT9.setOther ⟨sb,o,none⟩ _ (Ne.symm hsT)).alloc (.map #[] 0);have hlr:=own_lt_ne hSw.1 (k:=w9.heap.size) (Nat.le_refl _);have hL0:=(own_set hSw.1 ⟨sb,o,none⟩ (.map (some w9.heap.size)) (own_ne hSw.1 hBw ht)).alloc (.map #[] 0);obtain⟨w1,hr1,hown1,hg1⟩:=World.ownsMap.update (w:=((w9.setCell ⟨sb,o,none⟩ (.map (some w9.heap.size))).alloc (.map #[] 0)).drew) (by exact hmade) lawR underlying147 (by unfold maxLen;omega) hkey (plainElem_int underlying3 (a:=0) (by decide));have hB1:=hB0.drew.grown hg1 (by simpa using hsne.symm);have hT1:=hT0.drew.grown hg1 (by simp;omega);have hL1:w1.ownsRow base 113 3 (.slice ao 0 cap) 0 []:=World.ownsRow.kept (by exact hL0) hg1 (.inr hlr);have d0:w1.cell? ⟨sb,o,none⟩=some (.map (some w9.heap.size)):=by rw[hB1.cell o,List.getElem?_set_self (by omega)]
  have d1:w1.cell? ⟨sb,o+1,none⟩=some (.slice ao 0 cap):=by rw[hB1.cell (o+1),List.getElem?_set_ne (by omega)];exact h1
  have fB:=hB1.frozen;have hl1:=hB1.lt;have hTl1:=hT1.lt;have z0:w1.cell? ⟨w.heap.size,0,none⟩=some (.int .i64 k.a):=hT1.cell 0;have z1:w1.cell? ⟨w.heap.size,1,none⟩=some (.int .i64 k.b):=hT1.cell 1;have z2:w1.cell? ⟨w.heap.size,2,none⟩=some (.int .i64 k.c):=hT1.cell 2;go_region;have hL1a:(w1.alloc (.cells #[.int .i64 k.a,.int .i64 k.b,.int .i64 k.c] 113)).drew.ownsRow base 113 3 (.slice ao 0 cap) 0 []:=(by exact hL1.alloc _);have hnews:∀j u,((cellsR k))[j]? =some u->(w1.alloc (.cells #[.int .i64 k.a,.int .i64 k.b,.int .i64 k.c] 113)).drew.cell? ((⟨w1.heap.size,0,none⟩:Addr).add j)=some u:=(by exact new_cells w1 (cellsR k) 113);have hone:∀u∈(cellsR k),u.oneCell'=true:=(by intro u hu;simp[cellsR]at hu;rcases hu with rfl|rfl|rfl<;>rfl);have hbb:base<=(w1.alloc (.cells #[.int .i64 k.a,.int .i64 k.b,.int .i64 k.c] 113)).drew.heap.size:=by have:=hg1.size;simp at this;simp;omega
  go_wp2_with fail
  go_region_law (refine step_append_at _ rfl (.tmp 41) (.tmp 43) 148 rfl base 113 i1 _ 3 24 underlying148 hi1 hy0 hy1 hy2 rfl (by decide) (.slice ao 0 cap) 0 [] (by simp[Act.eval]) hL1a ⟨w1.heap.size,0,none⟩ 1 1 (cellsR k) (by simp[Act.eval]) (by decide) rfl hnews hone (by unfold maxLen;omega) (by omega) hbb ?_;intro g cap2 w2 hL2 hg2 hwh;have hB2:=(hB1.alloc (.cells #[.int .i64 k.a,.int .i64 k.b,.int .i64 k.c] 113)).drew.grown hg2 (own_ne hL1 hB1 ht);have e1:w2.cell? ⟨sb,o+1,none⟩=some (.slice ao 0 cap):=(by rw[hB2.cell (o+1),List.getElem?_set_ne (by omega)];exact h1);have fB2:=hB2.frozen)
  all_goals
   go_wp2_with fail;go_ret2;have hb1:base<=w1.heap.size:=by have:=hg1.size;simp at this;omega
   refine⟨rfl,.map (some w9.heap.size),.slice (some ⟨g,0,none⟩) 1 cap2,hB2.setCell (o+1) _,⟨?_,hwx,.inr ⟨w9.heap.size,_,rfl,by omega,?_,MapOfR.nil.put k hk HX.out⟩⟩,?_⟩
   ·simpa using own_set hL2 ⟨sb,o+1,none⟩ _ (own_ne hL2 hB2 ht)
   ·have h2:=World.ownsMap.kept (w:=(w1.alloc (.cells #[.int .i64 k.a,.int .i64 k.b,.int .i64 k.c] 113)).drew) (by exact hown1.alloc _) hg2 (Ne.symm hlr);simpa using map_kept h2 (Kept.setCell (b:=sb) w2 (p:=⟨sb,o+1,none⟩) rfl _) hsne.symm
   ·have hg1s:=hg1.size;have hg2s:=hg2.size;simp at hg1s hg2s;have k1:Only (fun q=>q=sb\/mapBlock (.map none)=some q\/(Value.slice ao 0 cap).ownBlock=some q) w w1:=(((Only.of_below hsa).setCell (p:=⟨sb,o,none⟩) (.inl (.inl rfl)) _).alloc _).drew.grown hg1 (fun q hq=>.inr (by simp at hq;omega));refine⟨((k1.alloc _).drew.grown hg2 (fun q hq=>.inl (.inr (.inr hq)))).setCell (p:=⟨sb,o+1,none⟩) (.inl (.inl rfl)) _,.inr (fun q hq=>by simp[mapBlock]at hq;omega),?_⟩;rcases hwh with hw|hw
    ·exact .inl hw
    ·exact .inr (fun q hq=>by simp[Value.ownBlock]at hq;simp at hw;omega)
 ·obtain⟨hh,ha⟩:=hD.2 k hk;rw[decide_eq_false hx]at hh;have hnil:=fun w:World=>run_eql_map_nil (P:=prog) w 147 113 3 (some r) underlying147;have hwf:(Lit.int .i64 (xs.length:Int)).wf=true:=WalkArith.wf_i64 (n:=(xs.length:Int)) ⟨by omega,by omega⟩;clear hx c0;go_enter func157,ntmps157;go_wp2_with (go_at_call 161;refine hF.mono ?_;rintro e w9 ⟨rfl,hB9⟩;have hBw:=(hB.alloc (.cells #[.int .i64 k.a,.int .i64 k.b,.int .i64 k.c] 113)).below hB9;have hSw:=(hS.alloc (.cells #[.int .i64 k.a,.int .i64 k.b,.int .i64 k.c] 113)).below hB9;have hT9:Blk w9 w.heap.size (cellsR k) 113:=(Blk.new w (cellsR k) 113).below hB9;have hsa:=hBa.trans (hB9.mono hBa.size);have hs9:=hsa.size;have hTl:=hT9.lt;have hslt:=hBw.lt;have f0:=hBw.frozen;have y0:w9.cell? ⟨w.heap.size,0,none⟩=some (.int .i64 k.a):=hT9.cell 0;have y1:w9.cell? ⟨w.heap.size,1,none⟩=some (.int .i64 k.b):=hT9.cell 1;have y2:w9.cell? ⟨w.heap.size,2,none⟩=some (.int .i64 k.c):=hT9.cell 2;have g0:w9.cell? ⟨sb,o,none⟩=some (.map (some r)):=(hBw.cell o).trans h0;have g1:w9.cell? ⟨sb,o+1,none⟩=some (.slice ao xs.length cap):=(hBw.cell (o+1)).trans h1);have hown9:=map_below (hown.alloc (.cells #[.int .i64 k.a,.int .i64 k.b,.int .i64 k.c] 113)) hB9;have hsr:=map_ne hown9 hBw;have hTr:=map_ne hown9 hT9;have hlr:=map_row hown9 hSw.1;obtain⟨w1,hr1,hown1,hg1⟩:=World.ownsMap.update (w:=w9.drew) (by exact hown9) lawR underlying147 (by unfold maxLen;omega) hkey (plainElem_int underlying3 (a:=(xs.length:Int)) hwf);have hB1:=hBw.drew.grown hg1 (by simpa using hsr.symm);have hT1:=hT9.drew.grown hg1 (by simpa using hTr.symm);have hL1:w1.ownsRow base 113 3 (.slice ao xs.length cap) xs.length (xs.flatMap fun k=>(cellsR k)):=World.ownsRow.kept (by exact hSw.1) hg1 (.inr hlr);have d1:w1.cell? ⟨sb,o+1,none⟩=some (.slice ao xs.length cap):=(hB1.cell (o+1)).trans h1;have fB:=hB1.frozen;have hl1:=hB1.lt;have hTl1:=hT1.lt;have z0:w1.cell? ⟨w.heap.size,0,none⟩=some (.int .i64 k.a):=hT1.cell 0;have z1:w1.cell? ⟨w.heap.size,1,none⟩=some (.int .i64 k.b):=hT1.cell 1;have z2:w1.cell? ⟨w.heap.size,2,none⟩=some (.int .i64 k.c):=hT1.cell 2;go_region;have hL1a:(w1.alloc (.cells #[.int .i64 k.a,.int .i64 k.b,.int .i64 k.c] 113)).drew.ownsRow base 113 3 (.slice ao xs.length cap) xs.length (xs.flatMap fun k=>(cellsR k)):=(by exact hL1.alloc _);have hnews:∀j u,((cellsR k))[j]? =some u->(w1.alloc (.cells #[.int .i64 k.a,.int .i64 k.b,.int .i64 k.c] 113)).drew.cell? ((⟨w1.heap.size,0,none⟩:Addr).add j)=some u:=(by exact new_cells w1 (cellsR k) 113);have hone:∀u∈(cellsR k),u.oneCell'=true:=(by intro u hu;simp[cellsR]at hu;rcases hu with rfl|rfl|rfl<;>rfl);have hbb:base<=(w1.alloc (.cells #[.int .i64 k.a,.int .i64 k.b,.int .i64 k.c] 113)).drew.heap.size:=by have:=hg1.size;simp at this;simp;omega
  go_wp2_with fail
  go_region_law (refine step_append_at _ rfl (.tmp 41) (.tmp 43) 148 rfl base 113 i1 _ 3 24 underlying148 hi1 hy0 hy1 hy2 rfl (by decide) (.slice ao xs.length cap) xs.length (xs.flatMap fun k=>(cellsR k)) (by simp[Act.eval]) hL1a ⟨w1.heap.size,0,none⟩ 1 1 (cellsR k) (by simp[Act.eval]) (by decide) rfl hnews hone (by unfold maxLen;omega) (by omega) hbb ?_;intro g cap2 w2 hL2 hg2 hwh;have hB2:=(hB1.alloc (.cells #[.int .i64 k.a,.int .i64 k.b,.int .i64 k.c] 113)).drew.grown hg2 (own_ne hL1 hB1 ht);have e1:w2.cell? ⟨sb,o+1,none⟩=some (.slice ao xs.length cap):=((hB2.cell (o+1)).trans h1);have fB2:=hB2.frozen)
  all_goals
   go_wp2_with fail;go_ret2;have hgs1:=hg1.size;have hgs2:=hg2.size;simp at hgs1 hgs2;have hse:cs.set o (.map (some r))=cs:=by obtain⟨hl0,he0⟩:=List.getElem?_eq_some_iff.1 h0;rw[<-he0,List.set_getElem_self]
   refine⟨rfl,.map (some r),.slice (some ⟨g,0,none⟩) (xs.length+1) cap2,by rw[hse];exact hB2.setCell (o+1) _,⟨?_,hwx,.inr ⟨r,_,rfl,hr,?_,hD.put k hk HX.out⟩⟩,?_⟩
   ·rw[hfl];simpa using own_set hL2 ⟨sb,o+1,none⟩ _ (own_ne hL2 hB2 ht)
   ·have h2:=World.ownsMap.kept (w:=(w1.alloc (.cells #[.int .i64 k.a,.int .i64 k.b,.int .i64 k.c] 113)).drew) (by exact hown1.alloc _) hg2 (Ne.symm hlr);simpa using map_kept h2 (Kept.setCell (b:=sb) w2 (p:=⟨sb,o+1,none⟩) rfl _) hsr.symm
   ·have k1:Only (fun q=>q=sb\/mapBlock (.map (some r))=some q\/(Value.slice ao xs.length cap).ownBlock=some q) w w1:=(Only.of_below hsa).drew.grown hg1 (fun q hq=>.inl (.inr (.inl hq)));refine⟨((k1.alloc _).drew.grown hg2 (fun q hq=>.inl (.inr (.inr hq)))).setCell (p:=⟨sb,o+1,none⟩) (.inl (.inl rfl)) _,.inl rfl,?_⟩;rcases hwh with hw|hw
    ·exact .inl hw
    ·exact .inr (fun q hq=>by simp[Value.ownBlock]at hq;simp at hw;omega)
theorem addAnyR(w:World)(base sb o:Nat)(cs:List Value)(t:TypeId)(mv lv:Value)(xs:List R3)(k:R3)(hB:Blk w sb cs t)(h0:cs[o]? =some mv)(h1:cs[o+1]? =some lv)(hS:SetIsR w base mv lv xs)(hk:k.Wf)(hn:xs.length<=1000000000000)(ht:t≠113)(hbw:base<=w.heap.size):
 Calls prog 157 #[.pointer (some ⟨sb,o,none⟩),(.agg #[.int .i64 k.a,.int .i64 k.b,.int .i64 k.c])] w fun e w'=>e=.returned (.tuple #[.int .i64 (posG (addG xs k) k:Nat),.bool (decide (k∉xs))])/\
  ∃mv' lv',Blk w' sb ((cs.set o mv').set (o+1) lv') t/\SetIsR w' base mv' lv' (addG xs k)/\AddFrame w w' sb mv lv mv' lv':=by
 by_cases hx:k∈xs
 ·refine(addOldR w base sb o mv lv xs k ((hB.cell o).trans h0) hS hk hx).mono ?_;rintro e w' ⟨rfl,hB'⟩;refine⟨by simp[addG,hx],mv,lv,?_,?_,AddFrame.still hB' sb mv lv⟩
  ·rw[set_two cs o mv lv h0 h1];exact hB.below hB'
  ·rw[addG,if_pos hx];exact hS.below hB'
 ·refine(addNewR w base sb o cs t mv lv xs k hB h0 h1 hS hk hx hn ht hbw).mono ?_;rintro e w' ⟨rfl,mv',lv',a,b,c⟩;refine⟨?_,mv',lv',a,?_,c⟩
  ·rw[addG,if_neg hx,posG_new xs k hx];simp[hx]
  ·rw[addG,if_neg hx];exact b
end
section
attribute [local go_sem] drewN_alloc drewN_setCell
open Go.RowKit Go.WideMaps Go.Maps
def MapOfI(D:DataW Unit)(xs:List Nat):Prop:=
 IsMap D/\∀k:Nat,k<=1000000000000000->Maps.has D (litI k)=decide (k∈xs)/\D.atKey (litI k) (.lit (.int .i64 0))=.lit (.int .i64 (posG xs k))
theorem MapOfI.nil:MapOfI (.map []) []:=⟨isMap_empty,fun _ _=>⟨rfl,rfl⟩⟩
theorem MapOfI.put{D:DataW Unit}{xs:List Nat}(h:MapOfI D xs)(k:Nat)(hw:k<=1000000000000000)(hk:k∉xs):MapOfI (D.put (litI k) (.lit (.int .i64 xs.length))) (xs++[k]):=by
 refine⟨h.1.put _ _,fun j hj=>?_⟩;by_cases he:j=k
 ·subst he;rw[has_put_same h.1 (keyI j),atKey_put_same h.1 (keyI j),posG_new xs j hk];exact⟨by simp,rfl⟩
 ·have hne:(litI j)≠(litI k):=fun e=>he (injI j k hj hw e);rw[has_put_other hne,atKey_put_other hne,(h.2 j hj).1,(h.2 j hj).2,posG_old xs k j he];exact⟨by simp[he],rfl⟩
def SetIsI(w:World)(base:Nat)(mv lv:Value)(xs:List Nat):Prop:=
 w.ownsRow base 3 1 lv xs.length (xs.flatMap fun k=>[Value.int .i64 (k:Nat)])/\(∀k∈xs,k<=1000000000000000)/\
 ((mv=.map none/\xs=[])\/∃r D,mv=.map (some r)/\base<=r/\w.ownsMap (H:=Unit) prog 3 (plainElem prog 3) r xs.length D/\MapOfI D xs)
theorem SetIsI.nil(w:World)(base:Nat):SetIsI w base (.map none) (.slice none 0 0) []:=⟨World.ownsRow_nil _ _ _ _,by simp,.inl ⟨rfl,rfl⟩⟩
theorem SetIsI.below{base:Nat}{w w':World}{mv lv:Value}{xs:List Nat}(h:SetIsI w base mv lv xs)(hb:Below w.heap.size w w'):SetIsI w' base mv lv xs:=by
 refine⟨own_below h.1 hb,h.2.1,?_⟩;rcases h.2.2 with h2|⟨r,D,hm,hr,ho,hD⟩
 ·exact .inl h2
 ·exact .inr ⟨r,D,hm,hr,map_below ho hb,hD⟩
theorem SetIsI.only{S:Nat->Prop}{base:Nat}{w w':World}{mv lv:Value}{xs:List Nat}(h:SetIsI w base mv lv xs)(ho:Only S w w')(hl:∀q,lv.ownBlock=some q->¬S q)(hm:∀q,mapBlock mv=some q->¬S q):SetIsI w' base mv lv xs:=by
 refine⟨own_only h.1 ho hl,h.2.1,?_⟩;rcases h.2.2 with h2|⟨r,D,rfl,hr,hw,hD⟩
 ·exact .inl h2
 ·exact .inr ⟨r,D,rfl,hr,map_only hw ho (hm r rfl),hD⟩
theorem SetIsI.lt{base:Nat}{w:World}{mv lv:Value}{xs:List Nat}(h:SetIsI w base mv lv xs):(∀q,lv.ownBlock=some q->base<=q/\q<w.heap.size)/\∀q,mapBlock mv=some q->base<=q/\q<w.heap.size:=by
 refine⟨fun q hq=>h.1.lt q hq,?_⟩;rcases h.2.2 with⟨rfl,_⟩|⟨r,D,rfl,hr,hw,hD⟩
 ·intro q hq;simp[mapBlock]at hq
 ·intro q hq;simp only[mapBlock,Option.some.injEq]at hq;subst hq;exact⟨hr,hw.lt⟩
theorem SetIsI.alloc{base:Nat}{w:World}{mv lv:Value}{xs:List Nat}(h:SetIsI w base mv lv xs)(o:Obj):SetIsI (w.alloc o) base mv lv xs:=h.below (below_alloc w o)
theorem findI_c(w:World)(base sb o:Nat)(mv lv:Value)(xs:List Nat)(k:Nat)(c0:w.cell? ⟨sb,o,none⟩=some mv)(hS:SetIsI w base mv lv xs)(hk:k<=1000000000000000):
 Calls prog 145 #[.pointer (some ⟨sb,o,none⟩),(.int .i64 (k:Nat))] w fun e w'=>e=.returned (.tuple #[.int .i64 (posG xs k:Nat),.bool (decide (k∈xs))])/\Below w.heap.size w w':=by
 have hkey:keyOf prog 3 (.int .i64 (k:Nat))=some (litI k):=keyOfI k hk;have hsb:=blk_in c0;have hB0:=Below.refl w.heap.size w;have hB1:=below_alloc w (.cells #[.int .i64 (k:Nat)] 3);rcases hS.2.2 with⟨rfl,rfl⟩|⟨r,D,rfl,hr,hown,hD⟩
 ·have hnil:=fun w:World=>look_nil (w:=w) true lawI underlying178 (zero3 w) hkey;go_enter func145,ntmps145;go_wp2;go_ret2;exact⟨rfl,by first|exact hB0|exact hB1.drew⟩
 ·obtain⟨hh,ha⟩:=hD.2 k hk;obtain⟨p,HP⟩:∃p:Int,Hid (p=(posG xs k:Nat)):=⟨_,rfl⟩;rw[<-HP.out]at ha⊢;have look:∀W:World,W.ownsMap (H:=Unit) prog 3 (plainElem prog 3) r xs.length D->(Instr.lookup 178 (.map (some r)) (.int .i64 (k:Nat)) true).run prog W=.ok (.tuple #[.int .i64 p,.bool (decide (k∈xs))]) W:=by intro W hW;obtain⟨v,ps,hrun,hR⟩:=hW.look_ok lawI underlying178 (zero3 W) (plainElem_int underlying3 (by decide)) hkey;obtain⟨c,rfl,hc,_⟩:=plainElem_int_inv underlying3 hR;have e:=congrArg Prod.fst hc;simp only[]at e;rw[ha]at e;simp at e;rw[hrun,hh,<-e]
  have l0:=look w hown;have l1:=look (w.alloc (.cells #[.int .i64 (k:Nat)] 3)).drew (by exact hown.alloc _);clear look;go_enter func145,ntmps145;go_wp2;go_ret2;exact⟨rfl,by first|exact hB0|exact hB1.drew⟩
theorem lenI_c(w:World)(base sb o:Nat)(mv lv:Value)(xs:List Nat)(c1:w.cell? ⟨sb,o+1,none⟩=some lv)(hS:SetIsI w base mv lv xs):
 Calls prog 122 #[.pointer (some ⟨sb,o,none⟩)] w fun e w'=>e=.returned (.int .i64 xs.length)/\w'=w:=by
 obtain⟨ao,cap,rfl⟩:=own_form hS.1;go_enter func122,ntmps122;go_wp2
 go_ret
 exact⟨rfl,rfl⟩
theorem addOldI(w:World)(base sb o:Nat)(mv lv:Value)(xs:List Nat)(k:Nat)(c0:w.cell? ⟨sb,o,none⟩=some mv)(hS:SetIsI w base mv lv xs)(hk:k<=1000000000000000)(hx:k∈xs):
 Calls prog 121 #[.pointer (some ⟨sb,o,none⟩),(.int .i64 (k:Nat))] w fun e w'=>e=.returned (.tuple #[.int .i64 (posG xs k),.bool false])/\Below w.heap.size w w':=by
 obtain⟨p,HP⟩:∃p:Int,Hid (p=(posG xs k:Nat)):=⟨_,rfl⟩;have hsb:=blk_in c0;have hB1:=below_alloc w (.cells #[.int .i64 (k:Nat)] 3);have hF0:=findI_c w base sb o mv lv xs k c0 hS hk;have hF1:=findI_c (w.alloc (.cells #[.int .i64 (k:Nat)] 3)) base sb o mv lv xs k (by rw[hB1.cell (p:=⟨sb,o,none⟩) hsb];exact c0) (hS.alloc _) hk;rw[decide_eq_true hx,<-HP.out]at hF0 hF1;rw[<-HP.out];go_enter func121,ntmps121;go_wp2_with (go_at_call 145;first|(refine hF0.mono ?_;rintro e w9 ⟨rfl,hB9⟩)|(refine hF1.mono ?_;rintro e w9 ⟨rfl,hB9⟩));go_ret2;exact⟨rfl,by first|exact hB9|exact hB1.trans (hB9.mono hB1.size)⟩
theorem addNewI(w:World)(base sb o:Nat)(cs:List Value)(t:TypeId)(mv lv:Value)(xs:List Nat)(k:Nat)(hB:Blk w sb cs t)(h0:cs[o]? =some mv)(h1:cs[o+1]? =some lv)(hS:SetIsI w base mv lv xs)(hk:k<=1000000000000000)(hx:k∉xs)(hn:xs.length<=1000000000000)(ht:t≠3)(hbw:base<=w.heap.size):
 Calls prog 121 #[.pointer (some ⟨sb,o,none⟩),(.int .i64 (k:Nat))] w fun e w'=>e=.returned (.tuple #[.int .i64 xs.length,.bool true])/\
  ∃mv' lv',Blk w' sb ((cs.set o mv').set (o+1) lv') t/\SetIsI w' base mv' lv' (xs++[k])/\AddFrame w w' sb mv lv mv' lv':=by
 have c0:w.cell? ⟨sb,o,none⟩=some mv:=(hB.cell o).trans h0;have hol:o+1<cs.length:=(List.getElem?_eq_some_iff.1 h1).1;have hkey:keyOf prog 3 (.int .i64 (k:Nat))=some (litI k):=keyOfI k hk;obtain⟨i1,hi1,hy0,hy1,hy2⟩:=info_parts infoI;obtain⟨pp,HP⟩:∃p:Int,Hid (p=(posG xs k:Nat)):=⟨_,rfl⟩;have hF:=findI_c w base sb o mv lv xs k c0 hS hk;rw[decide_eq_false hx,<-HP.out]at hF;obtain⟨ao,cap,rfl⟩:=own_form hS.1
 have hwx:∀j∈xs++[k],j<=1000000000000000:=by
  intro j hj;rw[List.mem_append,List.mem_singleton]at hj;rcases hj with hj|rfl
  ·exact hS.2.1 j hj
  ·exact hk
 have hfl:((xs++[k]).flatMap fun k=>[Value.int .i64 (k:Nat)])=(xs.flatMap fun k=>[Value.int .i64 (k:Nat)])++[Value.int .i64 (k:Nat)]:=by simp
 have HX:=hid hx;rcases hS.2.2 with⟨rfl,rfl⟩|⟨r,D,rfl,hr,hown,hD⟩
 ·have hnil:=fun w:World=>run_eql_map_nil (P:=prog) w 178 3 3 none underlying178;have hmm:=@run_makeMap prog;clear hx c0;go_enter func121,ntmps121;go_wp2_with (first|(go_at_call 145;refine hF.mono ?_;rintro e w9 ⟨rfl,hB9⟩;have hBw:=hB.below hB9;have hSw:=hS.below hB9;have hs9:=hB9.size;have g0:w9.cell? ⟨sb,o,none⟩=some (.map none):=(hBw.cell o).trans h0;have g1:w9.cell? ⟨sb,o+1,none⟩=some (.slice ao 0 cap):=(hBw.cell (o+1)).trans h1;have hslt:=hBw.lt;have f0:=hBw.frozen;have hsne:sb≠w9.heap.size:=(by omega);have hmade:((w9.setCell ⟨sb,o,none⟩ (.map (some w9.heap.size))).alloc (.map #[] 0)).ownsMap (H:=Unit) prog 3 (plainElem prog 3) w9.heap.size 0 (.map []):=(made_at _ _ _ _);have hB0:Blk ((w9.setCell ⟨sb,o,none⟩ (.map (some w9.heap.size))).alloc (.map #[] 0)) sb (cs.set o (.map (some w9.heap.size))) t:=(hBw.setCell o (.map (some w9.heap.size))).alloc (.map #[] 0);have hlr:=own_lt_ne hSw.1 (k:=w9.heap.size) (Nat.le_refl _);have hL0:=(own_set hSw.1 ⟨sb,o,none⟩ (.map (some w9.heap.size)) (own_ne hSw.1 hBw ht)).alloc (.map #[] 0))|(at_mapUpdate;refine wpList_mapUpdate_own _ rfl _ _ _ 178 rfl 3 3 lawI underlying178 _ w9.heap.size 0 (.map []) rfl hmade (by unfold maxLen;omega) _ _ _ rfl rfl hkey _ [] (plainElem_int underlying3 (by decide)) ?_;intro w1 hown1 hg1;have hB1:=hB0.grown hg1 (by simpa using hsne.symm);have hL1:=hL0.kept hg1 (.inr hlr);have d0:w1.cell? ⟨sb,o,none⟩=some (.map (some w9.heap.size)):=(by rw[hB1.cell o,List.getElem?_set_self (by omega)]);have d1:w1.cell? ⟨sb,o+1,none⟩=some (.slice ao 0 cap):=(by rw[hB1.cell (o+1),List.getElem?_set_ne (by omega)];exact h1);have fB:=hB1.frozen;have hl1:=hB1.lt)|(at_builtin;refine wpList_append_at _ rfl _ _ 22 rfl base 3 i1 _ 1 8 underlying22 hi1 hy0 hy1 hy2 rfl (by decide) _ 0 [] rfl (hL1.alloc _) ⟨w1.heap.size,0,none⟩ 1 1 [Value.int .i64 (k:Nat)] rfl (by decide) rfl (new_cells _ _ _) (by intro u hu;simp at hu;subst hu;rfl) (by unfold maxLen;omega) (by omega) (by have:=hg1.size;simp at this;simp;omega) ?_;intro g cap2 w2 hL2 hg2 hwh;have hB2:=(hB1.alloc _).grown hg2 (own_ne hL1 hB1 ht);have e1:w2.cell? ⟨sb,o+1,none⟩=some (.slice ao 0 cap):=(by rw[hB2.cell (o+1),List.getElem?_set_ne (by omega)];exact h1);have fB2:=hB2.frozen));go_ret2;have hb1:base<=w1.heap.size:=by have:=hg1.size;simp at this;omega
  refine⟨rfl,.map (some w9.heap.size),.slice (some ⟨g,0,none⟩) 1 cap2,hB2.setCell (o+1) _,⟨?_,hwx,.inr ⟨w9.heap.size,_,rfl,by omega,?_,MapOfI.nil.put k hk HX.out⟩⟩,?_⟩
  ·simpa using own_set hL2 ⟨sb,o+1,none⟩ _ (own_ne hL2 hB2 ht)
  ·have h2:=(hown1.alloc _).kept hg2 (Ne.symm hlr);simpa using map_kept h2 (Kept.setCell (b:=sb) w2 (p:=⟨sb,o+1,none⟩) rfl _) hsne.symm
  ·have hg1s:=hg1.size;have hg2s:=hg2.size;simp at hg1s hg2s;have k1:Only (fun q=>q=sb\/mapBlock (.map none)=some q\/(Value.slice ao 0 cap).ownBlock=some q) w w1:=(((Only.of_below hB9).setCell (p:=⟨sb,o,none⟩) (.inl (.inl rfl)) _).alloc _).grown hg1 (fun q hq=>.inr (by simp at hq;omega));refine⟨((k1.alloc _).grown hg2 (fun q hq=>.inl (.inr (.inr hq)))).setCell (p:=⟨sb,o+1,none⟩) (.inl (.inl rfl)) _,.inr (fun q hq=>by simp[mapBlock]at hq;omega),?_⟩;rcases hwh with hw|hw
   ·exact .inl hw
   ·exact .inr (fun q hq=>by simp[Value.ownBlock]at hq;simp at hw;omega)
 ·obtain⟨hh,ha⟩:=hD.2 k hk;rw[decide_eq_false hx]at hh;have hnil:=fun w:World=>run_eql_map_nil (P:=prog) w 178 3 3 (some r) underlying178;have hwf:(Lit.int .i64 (xs.length:Int)).wf=true:=WalkArith.wf_i64 (n:=(xs.length:Int)) ⟨by omega,by omega⟩;clear hx c0;go_enter func121,ntmps121;go_wp2_with (first|(go_at_call 145;refine hF.mono ?_;rintro e w9 ⟨rfl,hB9⟩;have hBw:=hB.below hB9;have hSw:=hS.below hB9;have hs9:=hB9.size;have g0:w9.cell? ⟨sb,o,none⟩=some (.map (some r)):=(hBw.cell o).trans h0;have g1:w9.cell? ⟨sb,o+1,none⟩=some (.slice ao xs.length cap):=(hBw.cell (o+1)).trans h1;have hslt:=hBw.lt;have f0:=hBw.frozen;have hown9:=map_below hown hB9;have hsr:=map_ne hown9 hBw;have hlr:=map_row hown9 hSw.1)|(at_mapUpdate;refine wpList_mapUpdate_own _ rfl _ _ _ 178 rfl 3 3 lawI underlying178 _ r xs.length D rfl hown9 (by unfold maxLen;omega) _ _ _ rfl rfl hkey _ [] (plainElem_int underlying3 hwf) ?_;intro w1 hown1 hg1;have hB1:=hBw.grown hg1 (by simpa using hsr.symm);have hL1:=hSw.1.kept hg1 (.inr hlr);have d1:w1.cell? ⟨sb,o+1,none⟩=some (.slice ao xs.length cap):=((hB1.cell (o+1)).trans h1);have fB:=hB1.frozen;have hl1:=hB1.lt)|(at_builtin;refine wpList_append_at _ rfl _ _ 22 rfl base 3 i1 _ 1 8 underlying22 hi1 hy0 hy1 hy2 rfl (by decide) _ xs.length _ rfl (hL1.alloc _) ⟨w1.heap.size,0,none⟩ 1 1 [Value.int .i64 (k:Nat)] rfl (by decide) rfl (new_cells _ _ _) (by intro u hu;simp at hu;subst hu;rfl) (by unfold maxLen;omega) (by omega) (by have:=hg1.size;simp;omega) ?_;intro g cap2 w2 hL2 hg2 hwh;have hB2:=(hB1.alloc _).grown hg2 (own_ne hL1 hB1 ht);have e1:w2.cell? ⟨sb,o+1,none⟩=some (.slice ao xs.length cap):=((hB2.cell (o+1)).trans h1);have fB2:=hB2.frozen));go_ret2;have hgs1:=hg1.size;have hgs2:=hg2.size;simp at hgs2;have hse:cs.set o (.map (some r))=cs:=by obtain⟨hl0,he0⟩:=List.getElem?_eq_some_iff.1 h0;rw[<-he0,List.set_getElem_self]
  refine⟨rfl,.map (some r),.slice (some ⟨g,0,none⟩) (xs.length+1) cap2,by rw[hse];exact hB2.setCell (o+1) _,⟨?_,hwx,.inr ⟨r,_,rfl,hr,?_,hD.put k hk HX.out⟩⟩,?_⟩
  ·rw[hfl];simpa using own_set hL2 ⟨sb,o+1,none⟩ _ (own_ne hL2 hB2 ht)
  ·have h2:=(hown1.alloc _).kept hg2 (Ne.symm hlr);simpa using map_kept h2 (Kept.setCell (b:=sb) w2 (p:=⟨sb,o+1,none⟩) rfl _) hsr.symm
  ·have k1:Only (fun q=>q=sb\/mapBlock (.map (some r))=some q\/(Value.slice ao xs.length cap).ownBlock=some q) w w1:=(Only.of_below hB9).grown hg1 (fun q hq=>.inl (.inr (.inl hq)));refine⟨((k1.alloc _).grown hg2 (fun q hq=>.inl (.inr (.inr hq)))).setCell (p:=⟨sb,o+1,none⟩) (.inl (.inl rfl)) _,.inl rfl,?_⟩;rcases hwh with hw|hw
   ·exact .inl hw
   ·exact .inr (fun q hq=>by simp[Value.ownBlock]at hq;simp at hw;omega)
theorem addAnyI(w:World)(base sb o:Nat)(cs:List Value)(t:TypeId)(mv lv:Value)(xs:List Nat)(k:Nat)(hB:Blk w sb cs t)(h0:cs[o]? =some mv)(h1:cs[o+1]? =some lv)(hS:SetIsI w base mv lv xs)(hk:k<=1000000000000000)(hn:xs.length<=1000000000000)(ht:t≠3)(hbw:base<=w.heap.size):
 Calls prog 121 #[.pointer (some ⟨sb,o,none⟩),(.int .i64 (k:Nat))] w fun e w'=>e=.returned (.tuple #[.int .i64 (posG (addG xs k) k:Nat),.bool (decide (k∉xs))])/\
  ∃mv' lv',Blk w' sb ((cs.set o mv').set (o+1) lv') t/\SetIsI w' base mv' lv' (addG xs k)/\AddFrame w w' sb mv lv mv' lv':=by
 by_cases hx:k∈xs
 ·refine(addOldI w base sb o mv lv xs k ((hB.cell o).trans h0) hS hk hx).mono ?_;rintro e w' ⟨rfl,hB'⟩;refine⟨by simp[addG,hx],mv,lv,?_,?_,AddFrame.still hB' sb mv lv⟩
  ·rw[set_two cs o mv lv h0 h1];exact hB.below hB'
  ·rw[addG,if_pos hx];exact hS.below hB'
 ·refine(addNewI w base sb o cs t mv lv xs k hB h0 h1 hS hk hx hn ht hbw).mono ?_;rintro e w' ⟨rfl,mv',lv',a,b,c⟩;refine⟨?_,mv',lv',a,?_,c⟩
  ·rw[addG,if_neg hx,posG_new xs k hx];simp[hx]
  ·rw[addG,if_neg hx];exact b
theorem idx_row0(a b c:Int)(w:World):(Instr.index 113 (.agg #[.int .i64 a,.int .i64 b,.int .i64 c]) (.int .i64 0)).run prog w=.ok (.int .i64 a) w:=by kernel_rfl
theorem idx_row1(a b c:Int)(w:World):(Instr.index 113 (.agg #[.int .i64 a,.int .i64 b,.int .i64 c]) (.int .i64 1)).run prog w=.ok (.int .i64 b) w:=by kernel_rfl
theorem idx_row2(a b c:Int)(w:World):(Instr.index 113 (.agg #[.int .i64 a,.int .i64 b,.int .i64 c]) (.int .i64 2)).run prog w=.ok (.int .i64 c) w:=by kernel_rfl
def swapT(v o t:Int):Int:=if t=v then o else t
def R3.swap(r:R3)(v o:Int):R3:=⟨swapT v o r.a,swapT v o r.b,swapT v o r.c⟩
def R3.swapTo(r:R3)(v o:Int)(i:Nat):R3:=⟨if 0<i then swapT v o r.a else r.a,if 1<i then swapT v o r.b else r.b,if 2<i then swapT v o r.c else r.c⟩
theorem termVar_c(w:World)(t:Int):Calls prog 153 #[.int .i64 t] w fun e w'=>e=.returned (.bool (decide (t<0)))/\w'=w:=by
 by_cases h:t<0
 ·go_enter func153,ntmps153;go_wp2_with fail
  go_ret
  exact⟨by simp[h],rfl⟩
 ·go_enter func153,ntmps153;go_wp2_with fail
  go_ret
  exact⟨by simp[h],rfl⟩
theorem with_c(w:World)(r:R3)(v o:Int):Calls prog 160 #[.agg #[.int .i64 r.a,.int .i64 r.b,.int .i64 r.c],.int .i64 v,.int .i64 o] w fun e w'=>e=.returned (.agg #[.int .i64 (r.swap v o).a,.int .i64 (r.swap v o).b,.int .i64 (r.swap v o).c])/\Below w.heap.size w w':=by
 have hR0:=(Blk.new w (cellsR r) 113).alloc (.cells #[.int .i64 0,.int .i64 0,.int .i64 0] 113);have hO0:=Blk.new (w.alloc (.cells #[.int .i64 r.a,.int .i64 r.b,.int .i64 r.c] 113)) [.int .i64 0,.int .i64 0,.int .i64 0] 113;rw[show(w.alloc (.cells #[.int .i64 r.a,.int .i64 r.b,.int .i64 r.c] 113)).heap.size=w.heap.size+1 by simp]at hO0;have hB0:=((Below.refl w.heap.size w).alloc (Nat.le_refl _) (.cells #[.int .i64 r.a,.int .i64 r.b,.int .i64 r.c] 113)).alloc (by simp) (.cells #[.int .i64 0,.int .i64 0,.int .i64 0] 113);have i0:=idx_row0 r.a r.b r.c;have i1:=idx_row1 r.a r.b r.c;have i2:=idx_row2 r.a r.b r.c;go_enter func160,ntmps160;go_wp2_with fail
 go_loopw [10] (fun iv wr=>∃(i:Nat),i<=3/\iv=.int .i64 i/\Blk wr w.heap.size (cellsR (r.swapTo v o i)) 113/\Blk wr (w.heap.size+1) [.int .i64 0,.int .i64 0,.int .i64 0] 113/\Below w.heap.size w wr) (fun iv _=>3-(intOf iv).toNat)
 case atStart=>exact⟨0,by omega,rfl,hR0,hO0,hB0⟩
 case round=>
  clear hR0 hO0 hB0;obtain⟨i,hi,rfl,hR,hO,hB⟩:=hrel;have fR:=hR.frozen;have fO:=hO.frozen;have hlR:=hR.lt;have hlO:=hO.lt;by_cases hlt:i<3
  ·rcases(show i=0\/i=1\/i=2 by omega) with h0|h0|h0
   ·subst h0;rw[show((0:Nat):Int)=0 from rfl];have c0:wr.cell? ⟨w.heap.size,0,none⟩=some (.int .i64 r.a):=hR.cell 0;by_cases he:r.a=v
    ·subst he;go_wp2_with fail;refine⟨⟨1,by omega,rfl,?_,hO.setOther ⟨w.heap.size,0,none⟩ _ (by simp),hB.setCell (p:=⟨w.heap.size,0,none⟩) (Nat.le_refl _) _⟩,by simp[intOf]⟩;have h:=hR.setCell 0 (.int .i64 o);have e:(cellsR (r.swapTo r.a o 0)).set 0 (.int .i64 o)=cellsR (r.swapTo r.a o 1):=by simp[cellsR,R3.swapTo,swapT]
     rw[e]at h;exact h
    ·have hb:(r.a==v)=false:=by simpa using he
     go_wp2_with fail;refine⟨⟨1,by omega,rfl,?_,hO,hB⟩,by simp[intOf]⟩;have e:cellsR (r.swapTo v o 0)=cellsR (r.swapTo v o 1):=by simp[cellsR,R3.swapTo,swapT,he]
     rw[e]at hR;exact hR
   ·subst h0;rw[show((1:Nat):Int)=1 from rfl];have c1:wr.cell? ⟨w.heap.size,1,none⟩=some (.int .i64 r.b):=hR.cell 1;by_cases he:r.b=v
    ·subst he;go_wp2_with fail;refine⟨⟨2,by omega,rfl,?_,hO.setOther ⟨w.heap.size,1,none⟩ _ (by simp),hB.setCell (p:=⟨w.heap.size,1,none⟩) (Nat.le_refl _) _⟩,by simp[intOf]⟩;have h:=hR.setCell 1 (.int .i64 o);have e:(cellsR (r.swapTo r.b o 1)).set 1 (.int .i64 o)=cellsR (r.swapTo r.b o 2):=by simp[cellsR,R3.swapTo,swapT]
     rw[e]at h;exact h
    ·have hb:(r.b==v)=false:=by simpa using he
     go_wp2_with fail;refine⟨⟨2,by omega,rfl,?_,hO,hB⟩,by simp[intOf]⟩;have e:cellsR (r.swapTo v o 1)=cellsR (r.swapTo v o 2):=by simp[cellsR,R3.swapTo,swapT,he]
     rw[e]at hR;exact hR
   ·subst h0;rw[show((2:Nat):Int)=2 from rfl];have c2:wr.cell? ⟨w.heap.size,2,none⟩=some (.int .i64 r.c):=hR.cell 2;by_cases he:r.c=v
    ·subst he;go_wp2_with fail;refine⟨⟨3,by omega,rfl,?_,hO.setOther ⟨w.heap.size,2,none⟩ _ (by simp),hB.setCell (p:=⟨w.heap.size,2,none⟩) (Nat.le_refl _) _⟩,by simp[intOf]⟩;have h:=hR.setCell 2 (.int .i64 o);have e:(cellsR (r.swapTo r.c o 2)).set 2 (.int .i64 o)=cellsR (r.swapTo r.c o 3):=by simp[cellsR,R3.swapTo,swapT]
     rw[e]at h;exact h
    ·have hb:(r.c==v)=false:=by simpa using he
     go_wp2_with fail;refine⟨⟨3,by omega,rfl,?_,hO,hB⟩,by simp[intOf]⟩;have e:cellsR (r.swapTo v o 2)=cellsR (r.swapTo v o 3):=by simp[cellsR,R3.swapTo,swapT,he]
     rw[e]at hR;exact hR
  ·have hie:i=3:=by omega
   subst hie;rw[show((3:Nat):Int)=3 from rfl];have c0:wr.cell? ⟨w.heap.size,0,none⟩=some (.int .i64 (r.swap v o).a):=hR.cell 0;have c1:wr.cell? ⟨w.heap.size,1,none⟩=some (.int .i64 (r.swap v o).b):=hR.cell 1;have c2:wr.cell? ⟨w.heap.size,2,none⟩=some (.int .i64 (r.swap v o).c):=hR.cell 2;have o0:wr.cell? ⟨w.heap.size+1,0,none⟩=some (.int .i64 0):=hO.cell 0;have o1:wr.cell? ⟨w.heap.size+1,1,none⟩=some (.int .i64 0):=hO.cell 1;have o2:wr.cell? ⟨w.heap.size+1,2,none⟩=some (.int .i64 0):=hO.cell 2;go_wp2_with fail;refine bodyPost_ret (v:=.agg #[.int .i64 (r.swap v o).a,.int .i64 (r.swap v o).b,.int .i64 (r.swap v o).c]) (by simp[results,results160,go_sem,o0,o1,o2]) rfl ⟨rfl,?_⟩;refine Below.setCell (Below.setCell (Below.setCell hB ?_ _) ?_ _) ?_ _<;>simp
structure RuD where
 h:A4
 b0:A4
 b1:A4
 b2:A4
 b3:A4
 pos:Nat
 cnt:Nat
def cellsU(r:RuD):List Value:=[.int .i64 r.h.n,.int .i64 r.h.r.a,.int .i64 r.h.r.b,.int .i64 r.h.r.c,.int .i64 r.b0.n,.int .i64 r.b0.r.a,.int .i64 r.b0.r.b,.int .i64 r.b0.r.c,.int .i64 r.b1.n,.int .i64 r.b1.r.a,.int .i64 r.b1.r.b,.int .i64 r.b1.r.c,.int .i64 r.b2.n,.int .i64 r.b2.r.a,.int .i64 r.b2.r.b,.int .i64 r.b2.r.c,.int .i64 r.b3.n,.int .i64 r.b3.r.a,.int .i64 r.b3.r.b,.int .i64 r.b3.r.c,.int .i64 (r.pos:Nat),.int .i64 (r.cnt:Nat)]
def A4.swap(x:A4)(v o:Int):A4:=⟨x.n,x.r.swap v o⟩
def RuD.swapTo(r:RuD)(v o:Int)(i:Nat):RuD:=⟨r.h.swap v o,if 0<i then r.b0.swap v o else r.b0,if 1<i then r.b1.swap v o else r.b1,if 2<i then r.b2.swap v o else r.b2,if 3<i then r.b3.swap v o else r.b3,r.pos,r.cnt⟩
def RuD.swap(r:RuD)(v o:Int):RuD:=r.swapTo v o r.cnt
theorem oneU(q:RuD):(cellsU q).toArray.all (fun x=>x.oneCell')=true:=by simp[cellsU,Value.oneCell']
theorem infoU:(prog.info? 118).map (fun i=>i.size)=some 22:=by kernel_rfl
theorem cellsU_h(r:RuD)(v o:Int):(((cellsU r).set 1 (.int .i64 (r.h.r.swap v o).a)).set 2 (.int .i64 (r.h.r.swap v o).b)).set 3 (.int .i64 (r.h.r.swap v o).c)=cellsU (r.swapTo v o 0):=by simp[cellsU,RuD.swapTo,A4.swap]
theorem cellsU_b0(r:RuD)(v o:Int):(((cellsU (r.swapTo v o 0)).set 5 (.int .i64 (r.b0.r.swap v o).a)).set 6 (.int .i64 (r.b0.r.swap v o).b)).set 7 (.int .i64 (r.b0.r.swap v o).c)=cellsU (r.swapTo v o 1):=by simp[cellsU,RuD.swapTo,A4.swap]
theorem cellsU_b1(r:RuD)(v o:Int):(((cellsU (r.swapTo v o 1)).set 9 (.int .i64 (r.b1.r.swap v o).a)).set 10 (.int .i64 (r.b1.r.swap v o).b)).set 11 (.int .i64 (r.b1.r.swap v o).c)=cellsU (r.swapTo v o 2):=by simp[cellsU,RuD.swapTo,A4.swap]
theorem cellsU_b2(r:RuD)(v o:Int):(((cellsU (r.swapTo v o 2)).set 13 (.int .i64 (r.b2.r.swap v o).a)).set 14 (.int .i64 (r.b2.r.swap v o).b)).set 15 (.int .i64 (r.b2.r.swap v o).c)=cellsU (r.swapTo v o 3):=by simp[cellsU,RuD.swapTo,A4.swap]
theorem cellsU_b3(r:RuD)(v o:Int):(((cellsU (r.swapTo v o 3)).set 17 (.int .i64 (r.b3.r.swap v o).a)).set 18 (.int .i64 (r.b3.r.swap v o).b)).set 19 (.int .i64 (r.b3.r.swap v o).c)=cellsU (r.swapTo v o 4):=by simp[cellsU,RuD.swapTo,A4.swap]
theorem rwith_c(w:World)(r:RuD)(v o:Int)(hc:r.cnt<=4)(q:RuD)(hq:r.swap v o=q):Calls prog 159 #[.agg #[.int .i64 r.h.n,.int .i64 r.h.r.a,.int .i64 r.h.r.b,.int .i64 r.h.r.c,.int .i64 r.b0.n,.int .i64 r.b0.r.a,.int .i64 r.b0.r.b,.int .i64 r.b0.r.c,.int .i64 r.b1.n,.int .i64 r.b1.r.a,.int .i64 r.b1.r.b,.int .i64 r.b1.r.c,.int .i64 r.b2.n,.int .i64 r.b2.r.a,.int .i64 r.b2.r.b,.int .i64 r.b2.r.c,.int .i64 r.b3.n,.int .i64 r.b3.r.a,.int .i64 r.b3.r.b,.int .i64 r.b3.r.c,.int .i64 (r.pos:Nat),.int .i64 (r.cnt:Nat)],.int .i64 v,.int .i64 o] w fun e w'=>e=.returned (.agg (cellsU q).toArray)/\Below w.heap.size w w':=by
 have hR0:=(Blk.new w (cellsU r) 118).alloc (.cells #[.int .i64 0,.int .i64 0,.int .i64 0,.int .i64 0,.int .i64 0,.int .i64 0,.int .i64 0,.int .i64 0,.int .i64 0,.int .i64 0,.int .i64 0,.int .i64 0,.int .i64 0,.int .i64 0,.int .i64 0,.int .i64 0,.int .i64 0,.int .i64 0,.int .i64 0,.int .i64 0,.int .i64 0,.int .i64 0] 118);have hO0:=Blk.new (w.alloc (.cells #[.int .i64 r.h.n,.int .i64 r.h.r.a,.int .i64 r.h.r.b,.int .i64 r.h.r.c,.int .i64 r.b0.n,.int .i64 r.b0.r.a,.int .i64 r.b0.r.b,.int .i64 r.b0.r.c,.int .i64 r.b1.n,.int .i64 r.b1.r.a,.int .i64 r.b1.r.b,.int .i64 r.b1.r.c,.int .i64 r.b2.n,.int .i64 r.b2.r.a,.int .i64 r.b2.r.b,.int .i64 r.b2.r.c,.int .i64 r.b3.n,.int .i64 r.b3.r.a,.int .i64 r.b3.r.b,.int .i64 r.b3.r.c,.int .i64 (r.pos:Nat),.int .i64 (r.cnt:Nat)] 118)) [.int .i64 0,.int .i64 0,.int .i64 0,.int .i64 0,.int .i64 0,.int .i64 0,.int .i64 0,.int .i64 0,.int .i64 0,.int .i64 0,.int .i64 0,.int .i64 0,.int .i64 0,.int .i64 0,.int .i64 0,.int .i64 0,.int .i64 0,.int .i64 0,.int .i64 0,.int .i64 0,.int .i64 0,.int .i64 0] 118;rw[show(w.alloc (.cells #[.int .i64 r.h.n,.int .i64 r.h.r.a,.int .i64 r.h.r.b,.int .i64 r.h.r.c,.int .i64 r.b0.n,.int .i64 r.b0.r.a,.int .i64 r.b0.r.b,.int .i64 r.b0.r.c,.int .i64 r.b1.n,.int .i64 r.b1.r.a,.int .i64 r.b1.r.b,.int .i64 r.b1.r.c,.int .i64 r.b2.n,.int .i64 r.b2.r.a,.int .i64 r.b2.r.b,.int .i64 r.b2.r.c,.int .i64 r.b3.n,.int .i64 r.b3.r.a,.int .i64 r.b3.r.b,.int .i64 r.b3.r.c,.int .i64 (r.pos:Nat),.int .i64 (r.cnt:Nat)] 118)).heap.size=w.heap.size+1 by simp]at hO0;have hB0:=((Below.refl w.heap.size w).alloc (Nat.le_refl _) (.cells #[.int .i64 r.h.n,.int .i64 r.h.r.a,.int .i64 r.h.r.b,.int .i64 r.h.r.c,.int .i64 r.b0.n,.int .i64 r.b0.r.a,.int .i64 r.b0.r.b,.int .i64 r.b0.r.c,.int .i64 r.b1.n,.int .i64 r.b1.r.a,.int .i64 r.b1.r.b,.int .i64 r.b1.r.c,.int .i64 r.b2.n,.int .i64 r.b2.r.a,.int .i64 r.b2.r.b,.int .i64 r.b2.r.c,.int .i64 r.b3.n,.int .i64 r.b3.r.a,.int .i64 r.b3.r.b,.int .i64 r.b3.r.c,.int .i64 (r.pos:Nat),.int .i64 (r.cnt:Nat)] 118)).alloc (by simp) (.cells #[.int .i64 0,.int .i64 0,.int .i64 0,.int .i64 0,.int .i64 0,.int .i64 0,.int .i64 0,.int .i64 0,.int .i64 0,.int .i64 0,.int .i64 0,.int .i64 0,.int .i64 0,.int .i64 0,.int .i64 0,.int .i64 0,.int .i64 0,.int .i64 0,.int .i64 0,.int .i64 0,.int .i64 0,.int .i64 0] 118);go_enter func159,ntmps159;go_wp2_with (go_at_call 160;refine(with_c _ r.h.r v o).mono ?_;rintro e w1 ⟨rfl,hB1⟩;have hR1:=hR0.below hB1;have hO1:=hO0.below hB1;have hBw1:=hB0.trans (hB1.mono hB0.size);have fR:=hR1.frozen;have hlR:=hR1.lt;have hlO:=hO1.lt;have z1:w1.cell? ⟨w.heap.size,1,none⟩=some (.int .i64 r.h.r.a):=hR1.cell 1;have z2:w1.cell? ⟨w.heap.size,2,none⟩=some (.int .i64 r.h.r.b):=hR1.cell 2;have z3:w1.cell? ⟨w.heap.size,3,none⟩=some (.int .i64 r.h.r.c):=hR1.cell 3;have z21:w1.cell? ⟨w.heap.size,21,none⟩=some (.int .i64 (r.cnt:Nat)):=hR1.cell 21)
 go_loopw [18] (fun iv wr=>∃(i:Nat),i<=r.cnt/\iv=.int .i64 i/\Blk wr w.heap.size (cellsU (r.swapTo v o i)) 118/\Blk wr (w.heap.size+1) [.int .i64 0,.int .i64 0,.int .i64 0,.int .i64 0,.int .i64 0,.int .i64 0,.int .i64 0,.int .i64 0,.int .i64 0,.int .i64 0,.int .i64 0,.int .i64 0,.int .i64 0,.int .i64 0,.int .i64 0,.int .i64 0,.int .i64 0,.int .i64 0,.int .i64 0,.int .i64 0,.int .i64 0,.int .i64 0] 118/\Below w.heap.size w wr) (fun iv _=>r.cnt-(intOf iv).toNat)
 case atStart=>refine⟨0,by omega,rfl,?_,((hO1.setOther ⟨w.heap.size,1,none⟩ _ (by simp)).setOther ⟨w.heap.size,2,none⟩ _ (by simp)).setOther ⟨w.heap.size,3,none⟩ _ (by simp),((hBw1.setCell (p:=⟨w.heap.size,1,none⟩) (Nat.le_refl _) _).setCell (p:=⟨w.heap.size,2,none⟩) (Nat.le_refl _) _).setCell (p:=⟨w.heap.size,3,none⟩) (Nat.le_refl _) _⟩;have h:=((hR1.setCell 1 (.int .i64 (r.h.r.swap v o).a)).setCell 2 (.int .i64 (r.h.r.swap v o).b)).setCell 3 (.int .i64 (r.h.r.swap v o).c);rw[cellsU_h]at h;exact h
 case round=>
  clear hR0 hO0 hB0 hR1 hO1 hBw1 z1 z2 z3 z21 fR hlR hlO;obtain⟨i,hi,rfl,hR,hO,hB⟩:=hrel;have hlR:=hR.lt;have hlO:=hO.lt;have hsz:=hB.size;by_cases hlt:i<r.cnt
  ·have hlt':(i:Int)<(r.cnt:Int):=by omega
   rcases(show i=0\/i=1\/i=2\/i=3 by omega) with h0|h0|h0|h0
   ·as_aux_lemma=>
    subst h0;rw[show((0:Nat):Int)=0 from rfl]at*;have x1:wr.cell? ⟨w.heap.size,5,none⟩=some (.int .i64 r.b0.r.a):=hR.cell 5;have x2:wr.cell? ⟨w.heap.size,6,none⟩=some (.int .i64 r.b0.r.b):=hR.cell 6;have x3:wr.cell? ⟨w.heap.size,7,none⟩=some (.int .i64 r.b0.r.c):=hR.cell 7;go_wp2_with (go_at_call 160;refine(with_c _ r.b0.r v o).mono ?_;rintro e w2 ⟨rfl,hB2⟩;have hR2:=hR.below hB2;have hO2:=hO.below hB2;have fR2:=hR2.frozen;have hlR2:=hR2.lt;have y1:w2.cell? ⟨w.heap.size,5,none⟩=some (.int .i64 r.b0.r.a):=hR2.cell 5;have y2:w2.cell? ⟨w.heap.size,6,none⟩=some (.int .i64 r.b0.r.b):=hR2.cell 6;have y3:w2.cell? ⟨w.heap.size,7,none⟩=some (.int .i64 r.b0.r.c):=hR2.cell 7);refine⟨⟨1,by omega,rfl,?_,((hO2.setOther ⟨w.heap.size,5,none⟩ _ (by simp)).setOther ⟨w.heap.size,6,none⟩ _ (by simp)).setOther ⟨w.heap.size,7,none⟩ _ (by simp),(((hB.trans (hB2.mono hsz)).setCell (p:=⟨w.heap.size,5,none⟩) (Nat.le_refl _) _).setCell (p:=⟨w.heap.size,6,none⟩) (Nat.le_refl _) _).setCell (p:=⟨w.heap.size,7,none⟩) (Nat.le_refl _) _⟩,by simp[intOf];omega⟩;have h:=((hR2.setCell 5 (.int .i64 (r.b0.r.swap v o).a)).setCell 6 (.int .i64 (r.b0.r.swap v o).b)).setCell 7 (.int .i64 (r.b0.r.swap v o).c);rw[cellsU_b0]at h;exact h
   ·as_aux_lemma=>
    subst h0;rw[show((1:Nat):Int)=1 from rfl]at*;have x1:wr.cell? ⟨w.heap.size,9,none⟩=some (.int .i64 r.b1.r.a):=hR.cell 9;have x2:wr.cell? ⟨w.heap.size,10,none⟩=some (.int .i64 r.b1.r.b):=hR.cell 10;have x3:wr.cell? ⟨w.heap.size,11,none⟩=some (.int .i64 r.b1.r.c):=hR.cell 11;go_wp2_with (go_at_call 160;refine(with_c _ r.b1.r v o).mono ?_;rintro e w2 ⟨rfl,hB2⟩;have hR2:=hR.below hB2;have hO2:=hO.below hB2;have fR2:=hR2.frozen;have hlR2:=hR2.lt;have y1:w2.cell? ⟨w.heap.size,9,none⟩=some (.int .i64 r.b1.r.a):=hR2.cell 9;have y2:w2.cell? ⟨w.heap.size,10,none⟩=some (.int .i64 r.b1.r.b):=hR2.cell 10;have y3:w2.cell? ⟨w.heap.size,11,none⟩=some (.int .i64 r.b1.r.c):=hR2.cell 11);refine⟨⟨2,by omega,rfl,?_,((hO2.setOther ⟨w.heap.size,9,none⟩ _ (by simp)).setOther ⟨w.heap.size,10,none⟩ _ (by simp)).setOther ⟨w.heap.size,11,none⟩ _ (by simp),(((hB.trans (hB2.mono hsz)).setCell (p:=⟨w.heap.size,9,none⟩) (Nat.le_refl _) _).setCell (p:=⟨w.heap.size,10,none⟩) (Nat.le_refl _) _).setCell (p:=⟨w.heap.size,11,none⟩) (Nat.le_refl _) _⟩,by simp[intOf];omega⟩;have h:=((hR2.setCell 9 (.int .i64 (r.b1.r.swap v o).a)).setCell 10 (.int .i64 (r.b1.r.swap v o).b)).setCell 11 (.int .i64 (r.b1.r.swap v o).c);rw[cellsU_b1]at h;exact h
   ·as_aux_lemma=>
    subst h0;rw[show((2:Nat):Int)=2 from rfl]at*;have x1:wr.cell? ⟨w.heap.size,13,none⟩=some (.int .i64 r.b2.r.a):=hR.cell 13;have x2:wr.cell? ⟨w.heap.size,14,none⟩=some (.int .i64 r.b2.r.b):=hR.cell 14;have x3:wr.cell? ⟨w.heap.size,15,none⟩=some (.int .i64 r.b2.r.c):=hR.cell 15;go_wp2_with (go_at_call 160;refine(with_c _ r.b2.r v o).mono ?_;rintro e w2 ⟨rfl,hB2⟩;have hR2:=hR.below hB2;have hO2:=hO.below hB2;have fR2:=hR2.frozen;have hlR2:=hR2.lt;have y1:w2.cell? ⟨w.heap.size,13,none⟩=some (.int .i64 r.b2.r.a):=hR2.cell 13;have y2:w2.cell? ⟨w.heap.size,14,none⟩=some (.int .i64 r.b2.r.b):=hR2.cell 14;have y3:w2.cell? ⟨w.heap.size,15,none⟩=some (.int .i64 r.b2.r.c):=hR2.cell 15);refine⟨⟨3,by omega,rfl,?_,((hO2.setOther ⟨w.heap.size,13,none⟩ _ (by simp)).setOther ⟨w.heap.size,14,none⟩ _ (by simp)).setOther ⟨w.heap.size,15,none⟩ _ (by simp),(((hB.trans (hB2.mono hsz)).setCell (p:=⟨w.heap.size,13,none⟩) (Nat.le_refl _) _).setCell (p:=⟨w.heap.size,14,none⟩) (Nat.le_refl _) _).setCell (p:=⟨w.heap.size,15,none⟩) (Nat.le_refl _) _⟩,by simp[intOf];omega⟩;have h:=((hR2.setCell 13 (.int .i64 (r.b2.r.swap v o).a)).setCell 14 (.int .i64 (r.b2.r.swap v o).b)).setCell 15 (.int .i64 (r.b2.r.swap v o).c);rw[cellsU_b2]at h;exact h
   ·as_aux_lemma=>
    subst h0;rw[show((3:Nat):Int)=3 from rfl]at*;have x1:wr.cell? ⟨w.heap.size,17,none⟩=some (.int .i64 r.b3.r.a):=hR.cell 17;have x2:wr.cell? ⟨w.heap.size,18,none⟩=some (.int .i64 r.b3.r.b):=hR.cell 18;have x3:wr.cell? ⟨w.heap.size,19,none⟩=some (.int .i64 r.b3.r.c):=hR.cell 19;go_wp2_with (go_at_call 160;refine(with_c _ r.b3.r v o).mono ?_;rintro e w2 ⟨rfl,hB2⟩;have hR2:=hR.below hB2;have hO2:=hO.below hB2;have fR2:=hR2.frozen;have hlR2:=hR2.lt;have y1:w2.cell? ⟨w.heap.size,17,none⟩=some (.int .i64 r.b3.r.a):=hR2.cell 17;have y2:w2.cell? ⟨w.heap.size,18,none⟩=some (.int .i64 r.b3.r.b):=hR2.cell 18;have y3:w2.cell? ⟨w.heap.size,19,none⟩=some (.int .i64 r.b3.r.c):=hR2.cell 19);refine⟨⟨4,by omega,rfl,?_,((hO2.setOther ⟨w.heap.size,17,none⟩ _ (by simp)).setOther ⟨w.heap.size,18,none⟩ _ (by simp)).setOther ⟨w.heap.size,19,none⟩ _ (by simp),(((hB.trans (hB2.mono hsz)).setCell (p:=⟨w.heap.size,17,none⟩) (Nat.le_refl _) _).setCell (p:=⟨w.heap.size,18,none⟩) (Nat.le_refl _) _).setCell (p:=⟨w.heap.size,19,none⟩) (Nat.le_refl _) _⟩,by simp[intOf];omega⟩;have h:=((hR2.setCell 17 (.int .i64 (r.b3.r.swap v o).a)).setCell 18 (.int .i64 (r.b3.r.swap v o).b)).setCell 19 (.int .i64 (r.b3.r.swap v o).c);rw[cellsU_b3]at h;exact h
  ·have hie:i=r.cnt:=by omega
   subst hie;have hq':r.swapTo v o r.cnt=q:=hq;rw[hq']at hR;clear hq hq';have hcu:(prog.info? 118).map (fun i=>i.size)=some (cellsU q).toArray.size:=infoU;go_wp2_with (first|(refine wpList_load_row rfl 118 (.tmp 3) rfl w.heap.size rfl 118 (cellsU q).toArray (0,0) _ hR underlying118 rfl hcu ?_)|(refine wpList_store_row rfl 118 (.tmp 6) (.tmp 34) rfl (w.heap.size+1) (cellsU q).toArray rfl rfl 118 _ hO hcu (by simp[cellsU]) (oneU q) ?_));refine bodyPost_ret (v:=.agg (cellsU q).toArray) (results_cell_row rfl _ _ (w.heap.size+1) 118 (cellsU q).toArray (0,0) _ rfl (setRow_heap wr (w.heap.size+1) _ _ _ _ hO) underlying118 rfl hcu) rfl ⟨rfl,below_setRow hB (by omega) _⟩
theorem Blk.row{w:World}{g:Nat}{cs:List Value}{t:TypeId}(h:Blk w g cs t)(cs':List Value):Blk (w.setRow g cs'.toArray) g cs' t:=setRow_heap w g _ _ _ _ h
theorem Blk.rowOff{w:World}{b:Nat}{cs:List Value}{t:TypeId}(h:Blk w b cs t)(g:Nat)(c:Array Value)(hne:b≠g):Blk (w.setRow g c) b cs t:=by unfold Blk;rw[setRow_other w g b c hne];exact h
theorem infoW:(prog.info? 113).map (fun i=>i.size)=some 3:=by kernel_rfl
theorem results_row_tmp{P:Program}{fn:Func}{p u:Tmp}{ty:TypeId}(h:fn.results=#[.cell p ty,.tmp u])(tmps:Array Value)(w:World)(g:Nat)(t:TypeId)(cs:Array Value)(fr:Nat×Nat)(d:TypeDesc)
 (hp:tmps.getD p undef=.pointer (some ⟨g,0,none⟩))(hg:w.heap[g]? =some (.cells cs t fr))(hu:P.underlying ty=some d)(hd:(match d with|.struct _|.array _ _=>true|_=>false)=true)(hi:(P.info? ty).map (fun i=>i.size)=some cs.size)(b:Value)(hb:tmps.getD u undef=b):
 (results fn tmps).run P w=.ok (.tuple #[.agg cs,b]) w:=by
 rw[results_cell_tmp h,hp,hb];simp[asAddr,run_loadVar_row w g t ty cs fr d hg hu hd hi,Result.andThen]
theorem oneW(x y z:Int):#[Value.int .i64 x,.int .i64 y,.int .i64 z].all (fun u=>u.oneCell')=true:=by simp[Value.oneCell']
theorem with3_c(w:World)(a b c v o:Int):Calls prog 160 #[.agg #[.int .i64 a,.int .i64 b,.int .i64 c],.int .i64 v,.int .i64 o] w fun e w'=>e=.returned (.agg #[.int .i64 (swapT v o a),.int .i64 (swapT v o b),.int .i64 (swapT v o c)])/\Below w.heap.size w w':=with_c w ⟨a,b,c⟩ v o
def ruZ:RuD:=⟨⟨0,⟨0,0,0⟩⟩,⟨0,⟨0,0,0⟩⟩,⟨0,⟨0,0,0⟩⟩,⟨0,⟨0,0,0⟩⟩,⟨0,⟨0,0,0⟩⟩,0,0⟩
structure FitS where
 r:RuD
 own:R3
 other:R3
def FitS.swap(s:FitS)(v o:Int):FitS:=⟨s.r.swap v o,s.own.swap v o,s.other.swap v o⟩
def FitS.step(s:FitS)(a b:Int):Option FitS:=
 if a<0 then(if a=b then some s else some (s.swap a b))
 else if a=b then some s
 else if b<0 then some (s.swap b a) else none
def FitS.rest:Nat->FitS->Option RuD
 |0,s=>(s.step s.own.a s.other.a).bind fun s=>(s.step s.own.b s.other.b).bind fun s=>(s.step s.own.c s.other.c).map FitS.r
 |1,s=>(s.step s.own.b s.other.b).bind fun s=>(s.step s.own.c s.other.c).map FitS.r
 |2,s=>(s.step s.own.c s.other.c).map FitS.r
 |_,s=>some s.r
def fitG(r:RuD)(own other:R3):Option RuD:=FitS.rest 0 ⟨r,own,other⟩
theorem fit_c(w:World)(r:RuD)(own other:R3)(hc:r.cnt<=4):Calls prog 156 #[.agg (cellsU r).toArray,.agg #[.int .i64 own.a,.int .i64 own.b,.int .i64 own.c],.agg #[.int .i64 other.a,.int .i64 other.b,.int .i64 other.c]] w fun e w'=>(∃q,e=.returned (.tuple #[.agg (cellsU q).toArray,.bool (fitG r own other).isSome])/\∀x,fitG r own other=some x->q=x)/\Below w.heap.size w w':=by
 have hR0:=(((Blk.new w (cellsU r) 118).alloc (.cells #[.int .i64 own.a,.int .i64 own.b,.int .i64 own.c] 113)).alloc (.cells #[.int .i64 other.a,.int .i64 other.b,.int .i64 other.c] 113)).alloc (.cells #[.int .i64 0,.int .i64 0,.int .i64 0,.int .i64 0,.int .i64 0,.int .i64 0,.int .i64 0,.int .i64 0,.int .i64 0,.int .i64 0,.int .i64 0,.int .i64 0,.int .i64 0,.int .i64 0,.int .i64 0,.int .i64 0,.int .i64 0,.int .i64 0,.int .i64 0,.int .i64 0,.int .i64 0,.int .i64 0] 118);have hA0:=((Blk.new (w.alloc (.cells (cellsU r).toArray 118)) (cellsR own) 113).alloc (.cells #[.int .i64 other.a,.int .i64 other.b,.int .i64 other.c] 113)).alloc (.cells #[.int .i64 0,.int .i64 0,.int .i64 0,.int .i64 0,.int .i64 0,.int .i64 0,.int .i64 0,.int .i64 0,.int .i64 0,.int .i64 0,.int .i64 0,.int .i64 0,.int .i64 0,.int .i64 0,.int .i64 0,.int .i64 0,.int .i64 0,.int .i64 0,.int .i64 0,.int .i64 0,.int .i64 0,.int .i64 0] 118);have hO0:=(Blk.new ((w.alloc (.cells (cellsU r).toArray 118)).alloc (.cells #[.int .i64 own.a,.int .i64 own.b,.int .i64 own.c] 113)) (cellsR other) 113).alloc (.cells #[.int .i64 0,.int .i64 0,.int .i64 0,.int .i64 0,.int .i64 0,.int .i64 0,.int .i64 0,.int .i64 0,.int .i64 0,.int .i64 0,.int .i64 0,.int .i64 0,.int .i64 0,.int .i64 0,.int .i64 0,.int .i64 0,.int .i64 0,.int .i64 0,.int .i64 0,.int .i64 0,.int .i64 0,.int .i64 0] 118);have hZ0:=Blk.new (((w.alloc (.cells (cellsU r).toArray 118)).alloc (.cells #[.int .i64 own.a,.int .i64 own.b,.int .i64 own.c] 113)).alloc (.cells #[.int .i64 other.a,.int .i64 other.b,.int .i64 other.c] 113)) [.int .i64 0,.int .i64 0,.int .i64 0,.int .i64 0,.int .i64 0,.int .i64 0,.int .i64 0,.int .i64 0,.int .i64 0,.int .i64 0,.int .i64 0,.int .i64 0,.int .i64 0,.int .i64 0,.int .i64 0,.int .i64 0,.int .i64 0,.int .i64 0,.int .i64 0,.int .i64 0,.int .i64 0,.int .i64 0] 118;have hB0:=((((Below.refl w.heap.size w).alloc (Nat.le_refl _) (.cells (cellsU r).toArray 118)).alloc (by simp) (.cells #[.int .i64 own.a,.int .i64 own.b,.int .i64 own.c] 113)).alloc (by simp;omega) (.cells #[.int .i64 other.a,.int .i64 other.b,.int .i64 other.c] 113)).alloc (by simp;omega) (.cells #[.int .i64 0,.int .i64 0,.int .i64 0,.int .i64 0,.int .i64 0,.int .i64 0,.int .i64 0,.int .i64 0,.int .i64 0,.int .i64 0,.int .i64 0,.int .i64 0,.int .i64 0,.int .i64 0,.int .i64 0,.int .i64 0,.int .i64 0,.int .i64 0,.int .i64 0,.int .i64 0,.int .i64 0,.int .i64 0] 118);simp only[World.size_alloc]at hA0 hO0 hZ0;go_enter func156,ntmps156;go_wp2_with fail
 go_loopw [11] (fun iv wr=>∃(i:Nat) (q:RuD) (a0 a1 a2 b0 b1 b2:Int),i<=3/\iv=.int .i64 i/\q.cnt=r.cnt/\Hid (FitS.rest i ⟨q,⟨a0,a1,a2⟩,⟨b0,b1,b2⟩⟩=fitG r own other)/\Blk wr w.heap.size (cellsU q) 118/\Blk wr (w.heap.size+1) [.int .i64 a0,.int .i64 a1,.int .i64 a2] 113/\Blk wr (w.heap.size+1+1) [.int .i64 b0,.int .i64 b1,.int .i64 b2] 113/\Blk wr (w.heap.size+1+1+1) [.int .i64 0,.int .i64 0,.int .i64 0,.int .i64 0,.int .i64 0,.int .i64 0,.int .i64 0,.int .i64 0,.int .i64 0,.int .i64 0,.int .i64 0,.int .i64 0,.int .i64 0,.int .i64 0,.int .i64 0,.int .i64 0,.int .i64 0,.int .i64 0,.int .i64 0,.int .i64 0,.int .i64 0,.int .i64 0] 118/\Below w.heap.size w wr) (fun iv _=>3-(intOf iv).toNat)
 case atStart=>exact⟨0,r,own.a,own.b,own.c,other.a,other.b,other.c,by omega,rfl,rfl,rfl,hR0,hA0,hO0,hZ0,hB0⟩
 case round=>
  clear hR0 hA0 hO0 hZ0 hB0;obtain⟨i,q,a0,a1,a2,b0,b1,b2,hi,rfl,hcn,HX,hR,hA,hO,hZ,hB⟩:=hrel;have hsz:=hB.size;by_cases hlt:i<3
  ·obtain⟨x,y,x0,y0,HY⟩:∃x y,wr.cell? ⟨w.heap.size+1,i,none⟩=some (.int .i64 x)/\wr.cell? ⟨w.heap.size+1+1,i,none⟩=some (.int .i64 y)/\Hid (((FitS.mk q ⟨a0,a1,a2⟩ ⟨b0,b1,b2⟩).step x y).bind (FitS.rest (i+1))=fitG r own other):=by
    rcases(show i=0\/i=1\/i=2 by omega) with rfl|rfl|rfl
    ·exact⟨_,_,hA.cell 0,hO.cell 0,HX⟩
    ·exact⟨_,_,hA.cell 1,hO.cell 1,HX⟩
    ·exact⟨_,_,hA.cell 2,hO.cell 2,hid (by rw[<-HX.out];simp only[FitS.rest];cases FitS.step _ a2 b2<;>rfl)⟩
   clear HX;generalize hn:i+1=n at HY;rcases(show i=0\/i=1\/i=2 by omega) with h0|h0|h0<;>subst h0
   all_goals
    first|rw[show((0:Nat):Int)=0 from rfl]at*|rw[show((1:Nat):Int)=1 from rfl]at*|rw[show((2:Nat):Int)=2 from rfl]at*
    by_cases he:x=y
    ·have HN:=hid (show FitS.rest n ⟨q,⟨a0,a1,a2⟩,⟨b0,b1,b2⟩⟩=fitG r own other by rw[<-HY.out];simp[FitS.step,he]);clear HY;subst he;cases hda:decide (x<0)
     all_goals
      go_wp2_with fail;go_region;go_wp2_with (go_at_call 153;refine(termVar_c _ _).mono ?_;rintro e w9 ⟨rfl,hw9⟩;subst w9)
      all_goals exact⟨⟨n,q,_,_,_,_,_,_,by omega,by subst hn;rfl,hcn,HN,hR.drew,hA.drew,hO.drew,hZ.drew,hB.drew⟩,by simp[intOf]⟩
    ·have he':¬y=x:=fun h=>he h.symm;by_cases hb:x<0\/y<0
     ·by_cases ha:x<0
      case' pos=>
          have HN:=hid (show FitS.rest n ((FitS.mk q ⟨a0,a1,a2⟩ ⟨b0,b1,b2⟩).swap x y)=fitG r own other by rw[<-HY.out];simp[FitS.step,ha,he]);have hda:decide (x<0)=true:=by simp[ha]
          obtain⟨u,rfl⟩:∃u,u=x:=⟨_,rfl⟩;obtain⟨v,rfl⟩:∃v,v=y:=⟨_,rfl⟩
      case' neg=>
          have hb:=hb.resolve_left ha;have HN:=hid (show FitS.rest n ((FitS.mk q ⟨a0,a1,a2⟩ ⟨b0,b1,b2⟩).swap y x)=fitG r own other by rw[<-HY.out];simp[FitS.step,ha,he,hb]);have hda:decide (x<0)=false:=by simp[ha]
          have hdb:decide (y<0)=true:=by simp[hb]
          obtain⟨u,rfl⟩:∃u,u=y:=⟨_,rfl⟩;obtain⟨v,rfl⟩:∃v,v=x:=⟨_,rfl⟩
      all_goals
          clear HY;go_wp2_with fail;go_region;go_upto_region 11 with(first|(go_at_call 153;refine(termVar_c _ _).mono ?_;rintro e w9 ⟨rfl,hw9⟩;subst w9)|(refine wpList_load_row rfl 118 (.tmp 3) rfl w.heap.size rfl 118 (cellsU q).toArray (0,0) _ hR.drew underlying118 rfl infoU ?_)|(go_at_call 159;refine(rwith_c _ q u v (by omega) _ rfl).mono ?_;rintro e w2 ⟨rfl,hB2⟩;have hR2:=hR.drew.below hB2;have hA2:=hA.drew.below hB2;have hO2:=hO.drew.below hB2;have hZ2:=hZ.drew.below hB2;have hBw2:=hB.drew.trans (hB2.mono hsz))|(refine wpList_store_row rfl 118 (.tmp 3) (.tmp 35) rfl w.heap.size (cellsU (q.swap u v)).toArray rfl rfl 118 _ hR2 infoU (by simp[cellsU]) (oneU _) ?_))
          have hR3:=hR2.row (cellsU (q.swap u v));have hA3:=hA2.rowOff w.heap.size (cellsU (q.swap u v)).toArray (by omega);have hO3:=hO2.rowOff w.heap.size (cellsU (q.swap u v)).toArray (by omega);have hZ3:=hZ2.rowOff w.heap.size (cellsU (q.swap u v)).toArray (by omega);have hB3:=below_setRow hBw2 (Nat.le_refl _) (cellsU (q.swap u v)).toArray;generalize w2.setRow w.heap.size (cellsU (q.swap u v)).toArray=w3 at*;go_upto_region 12 with(first|(refine wpList_load_row rfl 113 (.tmp 4) rfl (w.heap.size+1) rfl 113 #[.int .i64 a0,.int .i64 a1,.int .i64 a2] (0,0) _ hA3 underlying113 rfl infoW ?_)|(go_at_call 160;refine(with3_c _ a0 a1 a2 u v).mono ?_;rintro e w4 ⟨rfl,hB4⟩;have hR4:=hR3.below hB4;have hA4:=hA3.below hB4;have hO4:=hO3.below hB4;have hZ4:=hZ3.below hB4;have hBw4:=hB3.trans (hB4.mono hB3.size))|(refine wpList_store_row rfl 113 (.tmp 4) (.tmp 39) rfl (w.heap.size+1) #[.int .i64 (swapT u v a0),.int .i64 (swapT u v a1),.int .i64 (swapT u v a2)] rfl rfl 113 _ hA4 infoW rfl (oneW _ _ _) ?_))
          have hA5:=hA4.row [.int .i64 (swapT u v a0),.int .i64 (swapT u v a1),.int .i64 (swapT u v a2)];have hR5:=hR4.rowOff (w.heap.size+1) #[.int .i64 (swapT u v a0),.int .i64 (swapT u v a1),.int .i64 (swapT u v a2)] (by omega);have hO5:=hO4.rowOff (w.heap.size+1) #[.int .i64 (swapT u v a0),.int .i64 (swapT u v a1),.int .i64 (swapT u v a2)] (by omega);have hZ5:=hZ4.rowOff (w.heap.size+1) #[.int .i64 (swapT u v a0),.int .i64 (swapT u v a1),.int .i64 (swapT u v a2)] (by omega);have hB5:=below_setRow hBw4 (show w.heap.size<=w.heap.size+1 by omega) #[.int .i64 (swapT u v a0),.int .i64 (swapT u v a1),.int .i64 (swapT u v a2)];generalize w4.setRow (w.heap.size+1) #[.int .i64 (swapT u v a0),.int .i64 (swapT u v a1),.int .i64 (swapT u v a2)]=w5 at*;go_wp2_with (first|(refine wpList_load_row rfl 113 (.tmp 5) rfl (w.heap.size+1+1) rfl 113 #[.int .i64 b0,.int .i64 b1,.int .i64 b2] (0,0) _ hO5 underlying113 rfl infoW ?_)|(go_at_call 160;refine(with3_c _ b0 b1 b2 u v).mono ?_;rintro e w6 ⟨rfl,hB6⟩;have hR6:=hR5.below hB6;have hA6:=hA5.below hB6;have hO6:=hO5.below hB6;have hZ6:=hZ5.below hB6;have hBw6:=hB5.trans (hB6.mono hB5.size))|(refine wpList_store_row rfl 113 (.tmp 5) (.tmp 43) rfl (w.heap.size+1+1) #[.int .i64 (swapT u v b0),.int .i64 (swapT u v b1),.int .i64 (swapT u v b2)] rfl rfl 113 _ hO6 infoW rfl (oneW _ _ _) ?_));exact⟨⟨n,q.swap u v,swapT u v a0,swapT u v a1,swapT u v a2,swapT u v b0,swapT u v b1,swapT u v b2,by omega,by subst hn;rfl,hcn,HN,hR6.rowOff (w.heap.size+1+1) _ (by omega),hA6.rowOff (w.heap.size+1+1) _ (by omega),hO6.row [.int .i64 (swapT u v b0),.int .i64 (swapT u v b1),.int .i64 (swapT u v b2)],hZ6.rowOff (w.heap.size+1+1) _ (by omega),below_setRow hBw6 (by omega) _⟩,by simp[intOf]⟩
     ·have ha:¬x<0:=fun h=>hb (.inl h);have hb:¬y<0:=fun h=>hb (.inr h);have HN:=hid (show fitG r own other=none by rw[<-HY.out];simp[FitS.step,ha,he,hb]);have hda:decide (x<0)=false:=by simp[ha]
      have hdb:decide (y<0)=false:=by simp[hb]
      clear HY;go_wp2_with fail;go_region;go_wp2_with (first|(go_at_call 153;refine(termVar_c _ _).mono ?_;rintro e w9 ⟨rfl,hw9⟩;subst w9)|(refine wpList_store_row rfl 118 (.tmp 6) (.tmp 31) rfl (w.heap.size+1+1+1) (cellsU ruZ).toArray rfl rfl 118 _ hZ.drew infoU (by simp[cellsU]) (oneU _) ?_));refine bodyPost_ret (v:=.tuple #[.agg (cellsU ruZ).toArray,.bool false]) (results_row_tmp rfl _ _ (w.heap.size+1+1+1) 118 (cellsU ruZ).toArray (0,0) _ rfl (setRow_heap _ (w.heap.size+1+1+1) _ _ _ _ hZ.drew) underlying118 rfl infoU (.bool false) rfl) rfl ⟨⟨ruZ,by rw[HN.out];rfl,fun x hx=>by rw[HN.out]at hx;cases hx⟩,below_setRow hB.drew (by omega) _⟩
  ·have hie:i=3:=by omega
   subst hie;rw[show((3:Nat):Int)=3 from rfl]at*;have HN:=hid (show fitG r own other=some q from HX.out.symm);clear HX;go_wp2_with (first|(refine wpList_load_row rfl 118 (.tmp 3) rfl w.heap.size rfl 118 (cellsU q).toArray (0,0) _ hR underlying118 rfl infoU ?_)|(refine wpList_store_row rfl 118 (.tmp 6) _ rfl (w.heap.size+1+1+1) (cellsU q).toArray rfl rfl 118 _ hZ infoU (by simp[cellsU]) (oneU _) ?_));refine bodyPost_ret (v:=.tuple #[.agg (cellsU q).toArray,.bool true]) (results_row_tmp rfl _ _ (w.heap.size+1+1+1) 118 (cellsU q).toArray (0,0) _ rfl (setRow_heap _ (w.heap.size+1+1+1) _ _ _ _ hZ) underlying118 rfl infoU (.bool true) rfl) rfl ⟨⟨q,by rw[HN.out];rfl,fun x hx=>by rw[HN.out]at hx;exact Option.some.inj hx⟩,below_setRow hB (by omega) _⟩
def R3.first(r:R3)(v:Int):Int:=if v=r.a then 0 else if v=r.b then 1 else if v=r.c then 2 else-1
def R3.kindT(r:R3)(t:Int):Int:=if t<0 then-1-r.first t else t
def R3.kind(r:R3):R3:=⟨r.kindT r.a,r.kindT r.b,r.kindT r.c⟩
theorem sIndex_c(w:World)(g:Nat)(r:R3)(hG:Blk w g (cellsR r) 113)(v:Int):Calls prog 154 #[.slice (some ⟨g,0,none⟩) 3 3,.int .i64 v] w fun e w'=>e=.returned (.int .i64 (r.first v))/\w'=w:=by
 have c0:w.cell? ⟨g,0,none⟩=some (.int .i64 r.a):=hG.cell 0;have c1:w.cell? ⟨g,1,none⟩=some (.int .i64 r.b):=hG.cell 1;have c2:w.cell? ⟨g,2,none⟩=some (.int .i64 r.c):=hG.cell 2;go_enter func154,ntmps154;go_wp2_with fail
 go_loopw [8] (fun iv wr=>∃(i:Nat),i<=3/\iv=.int .i64 i/\Hid ((0<i->v≠r.a)/\(1<i->v≠r.b)/\(2<i->v≠r.c))/\wr=w) (fun iv _=>3-(intOf iv).toNat)
 case atStart=>exact⟨0,by omega,rfl,⟨fun h=>by omega,fun h=>by omega,fun h=>by omega⟩,rfl⟩
 case round=>
  obtain⟨i,hi,rfl,HX,hw⟩:=hrel;subst wr;by_cases hlt:i<3
  ·rcases(show i=0\/i=1\/i=2 by omega) with h0|h0|h0
   ·subst h0;rw[show((0:Nat):Int)=0 from rfl]at*;by_cases he:v=r.a
    ·have HE:=hid (show r.first v=0 by unfold R3.first;rw[if_pos he]);have hb:(v==r.a)=true:=by simpa using he
     clear he HX;go_wp2_with fail
     go_ret
     rw[HE.out];exact⟨rfl,rfl⟩
    ·have hb:(v==r.a)=false:=by simpa using he
     have HN:Hid ((0<1->v≠r.a)/\(1<1->v≠r.b)/\(2<1->v≠r.c)):=⟨fun _=>he,fun h=>by omega,fun h=>by omega⟩;clear he HX;go_wp2_with fail;exact⟨⟨1,by omega,rfl,HN,trivial⟩,by simp[intOf]⟩
   ·subst h0;rw[show((1:Nat):Int)=1 from rfl]at*;by_cases he:v=r.b
    ·have HE:=hid (show r.first v=1 by unfold R3.first;rw[if_neg (HX.out.1 (by omega)),if_pos he]);have hb:(v==r.b)=true:=by simpa using he
     clear he HX;go_wp2_with fail
     go_ret
     rw[HE.out];exact⟨rfl,rfl⟩
    ·have hb:(v==r.b)=false:=by simpa using he
     have HN:Hid ((0<2->v≠r.a)/\(1<2->v≠r.b)/\(2<2->v≠r.c)):=⟨fun _=>HX.out.1 (by omega),fun _=>he,fun h=>by omega⟩;clear he HX;go_wp2_with fail;exact⟨⟨2,by omega,rfl,HN,trivial⟩,by simp[intOf]⟩
   ·subst h0;rw[show((2:Nat):Int)=2 from rfl]at*;by_cases he:v=r.c
    ·have HE:=hid (show r.first v=2 by unfold R3.first;rw[if_neg (HX.out.1 (by omega)),if_neg (HX.out.2.1 (by omega)),if_pos he]);have hb:(v==r.c)=true:=by simpa using he
     clear he HX;go_wp2_with fail
     go_ret
     rw[HE.out];exact⟨rfl,rfl⟩
    ·have hb:(v==r.c)=false:=by simpa using he
     have HN:Hid ((0<3->v≠r.a)/\(1<3->v≠r.b)/\(2<3->v≠r.c)):=⟨fun _=>HX.out.1 (by omega),fun _=>HX.out.2.1 (by omega),fun _=>he⟩;clear he HX;go_wp2_with fail;exact⟨⟨3,by omega,rfl,HN,trivial⟩,by simp[intOf]⟩
  ·have hie:i=3:=by omega
   subst hie;rw[show((3:Nat):Int)=3 from rfl]at*;have HE:=hid (show r.first v= -1 by unfold R3.first;rw[if_neg (HX.out.1 (by omega)),if_neg (HX.out.2.1 (by omega)),if_neg (HX.out.2.2 (by omega))]);clear HX;go_wp2_with fail
   go_ret
   rw[HE.out];exact⟨rfl,rfl⟩
theorem R3.first_le(r:R3)(v:Int): -1<=r.first v/\r.first v<=2:=by
 unfold R3.first
 split
 ·omega
 ·split
  ·omega
  ·split<;>omega
def R3.kindTo(r:R3)(i:Nat):R3:=⟨if 0<i then r.kindT r.a else r.a,if 1<i then r.kindT r.b else r.b,if 2<i then r.kindT r.c else r.c⟩
theorem R3.kindTo_set0(r:R3)(h:r.a<0):(cellsR (r.kindTo 0)).set 0 (.int .i64 (-1-r.first r.a))=cellsR (r.kindTo 1):=by simp[cellsR,R3.kindTo,R3.kindT,h]
theorem R3.kindTo_same0(r:R3)(h:¬r.a<0):cellsR (r.kindTo 0)=cellsR (r.kindTo 1):=by simp[cellsR,R3.kindTo,R3.kindT,h]
theorem R3.kindTo_set1(r:R3)(h:r.b<0):(cellsR (r.kindTo 1)).set 1 (.int .i64 (-1-r.first r.b))=cellsR (r.kindTo 2):=by simp[cellsR,R3.kindTo,R3.kindT,h]
theorem R3.kindTo_same1(r:R3)(h:¬r.b<0):cellsR (r.kindTo 1)=cellsR (r.kindTo 2):=by simp[cellsR,R3.kindTo,R3.kindT,h]
theorem R3.kindTo_set2(r:R3)(h:r.c<0):(cellsR (r.kindTo 2)).set 2 (.int .i64 (-1-r.first r.c))=cellsR (r.kindTo 3):=by simp[cellsR,R3.kindTo,R3.kindT,h]
theorem R3.kindTo_same2(r:R3)(h:¬r.c<0):cellsR (r.kindTo 2)=cellsR (r.kindTo 3):=by simp[cellsR,R3.kindTo,R3.kindT,h]
theorem kind_c(w:World)(r:R3):Calls prog 142 #[.agg #[.int .i64 r.a,.int .i64 r.b,.int .i64 r.c]] w fun e w'=>e=.returned (.agg #[.int .i64 r.kind.a,.int .i64 r.kind.b,.int .i64 r.kind.c])/\Below w.heap.size w w':=by
 have i0:=idx_row0 r.a r.b r.c;have i1:=idx_row1 r.a r.b r.c;have i2:=idx_row2 r.a r.b r.c;have hR0:=((Blk.new w (cellsR r) 113).alloc (.cells #[.int .i64 0,.int .i64 0,.int .i64 0] 113)).alloc (.cells #[.int .i64 r.a,.int .i64 r.b,.int .i64 r.c] 113);have hO0:=(Blk.new (w.alloc (.cells #[.int .i64 r.a,.int .i64 r.b,.int .i64 r.c] 113)) [.int .i64 0,.int .i64 0,.int .i64 0] 113).alloc (.cells #[.int .i64 r.a,.int .i64 r.b,.int .i64 r.c] 113);have hK0:=Blk.new ((w.alloc (.cells #[.int .i64 r.a,.int .i64 r.b,.int .i64 r.c] 113)).alloc (.cells #[.int .i64 0,.int .i64 0,.int .i64 0] 113)) (cellsR (r.kindTo 0)) 113;have hB0:=(((Below.refl w.heap.size w).alloc (Nat.le_refl _) (.cells #[.int .i64 r.a,.int .i64 r.b,.int .i64 r.c] 113)).alloc (by simp) (.cells #[.int .i64 0,.int .i64 0,.int .i64 0] 113)).alloc (by simp;omega) (.cells #[.int .i64 r.a,.int .i64 r.b,.int .i64 r.c] 113);simp only[World.size_alloc]at hO0 hK0;go_enter func142,ntmps142;go_wp2_with fail
 go_loopw [8] (fun iv wr=>∃(i:Nat),i<=3/\iv=.int .i64 i/\Blk wr w.heap.size (cellsR r) 113/\Blk wr (w.heap.size+1) [.int .i64 0,.int .i64 0,.int .i64 0] 113/\Blk wr (w.heap.size+1+1) (cellsR (r.kindTo i)) 113/\Below w.heap.size w wr) (fun iv _=>3-(intOf iv).toNat)
 case atStart=>exact⟨0,by omega,rfl,hR0,hO0,hK0,hB0⟩
 case round=>
  clear hR0 hO0 hK0 hB0;obtain⟨i,hi,rfl,hR,hO,hK,hB⟩:=hrel;have fK:=hK.frozen;have hlR:=hR.lt;have hlO:=hO.lt;have hlK:=hK.lt;by_cases hlt:i<3
  ·rcases(show i=0\/i=1\/i=2 by omega) with h0|h0|h0
   ·subst h0;rw[show((0:Nat):Int)=0 from rfl]at*;have z0:wr.cell? ⟨w.heap.size+1+1,0,none⟩=some (.int .i64 r.a):=hK.cell 0;by_cases hv:r.a<0
    ·have hdv:decide (r.a<0)=true:=by simp[hv]
     have hfb:=r.first_le r.a;have HS:=hid (sIndex_c wr w.heap.size r hR r.a);have HK:=hid (r.kindTo_set0 hv);generalize hfe:r.first r.a=fx at*;clear hfe;go_wp2_with (first|(go_at_call 153;refine(termVar_c _ _).mono ?_;rintro e w9 ⟨rfl,hw9⟩;subst w9)|(go_at_call 154;refine(HS.out).mono ?_;rintro e w9 ⟨rfl,hw9⟩;subst w9));have h:=hK.setCell 0 (.int .i64 (-1-fx));rw[HK.out]at h;exact⟨⟨1,by omega,rfl,hR.setOther ⟨w.heap.size+1+1,0,none⟩ _ (by simp;omega),hO.setOther ⟨w.heap.size+1+1,0,none⟩ _ (by simp),h,hB.setCell (p:=⟨w.heap.size+1+1,0,none⟩) (by simp;omega) _⟩,by simp[intOf]⟩
    ·have hdv:decide (r.a<0)=false:=by simp[hv]
     have HK:=hid (r.kindTo_same0 hv);go_wp2_with (go_at_call 153;refine(termVar_c _ _).mono ?_;rintro e w9 ⟨rfl,hw9⟩;subst w9);rw[HK.out]at hK;exact⟨⟨1,by omega,rfl,hR,hO,hK,hB⟩,by simp[intOf]⟩
   ·subst h0;rw[show((1:Nat):Int)=1 from rfl]at*;have z0:wr.cell? ⟨w.heap.size+1+1,1,none⟩=some (.int .i64 r.b):=hK.cell 1;by_cases hv:r.b<0
    ·have hdv:decide (r.b<0)=true:=by simp[hv]
     have hfb:=r.first_le r.b;have HS:=hid (sIndex_c wr w.heap.size r hR r.b);have HK:=hid (r.kindTo_set1 hv);generalize hfe:r.first r.b=fx at*;clear hfe;go_wp2_with (first|(go_at_call 153;refine(termVar_c _ _).mono ?_;rintro e w9 ⟨rfl,hw9⟩;subst w9)|(go_at_call 154;refine(HS.out).mono ?_;rintro e w9 ⟨rfl,hw9⟩;subst w9));have h:=hK.setCell 1 (.int .i64 (-1-fx));rw[HK.out]at h;exact⟨⟨2,by omega,rfl,hR.setOther ⟨w.heap.size+1+1,1,none⟩ _ (by simp;omega),hO.setOther ⟨w.heap.size+1+1,1,none⟩ _ (by simp),h,hB.setCell (p:=⟨w.heap.size+1+1,1,none⟩) (by simp;omega) _⟩,by simp[intOf]⟩
    ·have hdv:decide (r.b<0)=false:=by simp[hv]
     have HK:=hid (r.kindTo_same1 hv);go_wp2_with (go_at_call 153;refine(termVar_c _ _).mono ?_;rintro e w9 ⟨rfl,hw9⟩;subst w9);rw[HK.out]at hK;exact⟨⟨2,by omega,rfl,hR,hO,hK,hB⟩,by simp[intOf]⟩
   ·subst h0;rw[show((2:Nat):Int)=2 from rfl]at*;have z0:wr.cell? ⟨w.heap.size+1+1,2,none⟩=some (.int .i64 r.c):=hK.cell 2;by_cases hv:r.c<0
    ·have hdv:decide (r.c<0)=true:=by simp[hv]
     have hfb:=r.first_le r.c;have HS:=hid (sIndex_c wr w.heap.size r hR r.c);have HK:=hid (r.kindTo_set2 hv);generalize hfe:r.first r.c=fx at*;clear hfe;go_wp2_with (first|(go_at_call 153;refine(termVar_c _ _).mono ?_;rintro e w9 ⟨rfl,hw9⟩;subst w9)|(go_at_call 154;refine(HS.out).mono ?_;rintro e w9 ⟨rfl,hw9⟩;subst w9));have h:=hK.setCell 2 (.int .i64 (-1-fx));rw[HK.out]at h;exact⟨⟨3,by omega,rfl,hR.setOther ⟨w.heap.size+1+1,2,none⟩ _ (by simp;omega),hO.setOther ⟨w.heap.size+1+1,2,none⟩ _ (by simp),h,hB.setCell (p:=⟨w.heap.size+1+1,2,none⟩) (by simp;omega) _⟩,by simp[intOf]⟩
    ·have hdv:decide (r.c<0)=false:=by simp[hv]
     have HK:=hid (r.kindTo_same2 hv);go_wp2_with (go_at_call 153;refine(termVar_c _ _).mono ?_;rintro e w9 ⟨rfl,hw9⟩;subst w9);rw[HK.out]at hK;exact⟨⟨3,by omega,rfl,hR,hO,hK,hB⟩,by simp[intOf]⟩
  ·have hie:i=3:=by omega
   subst hie;rw[show((3:Nat):Int)=3 from rfl]at*;have hK':Blk wr (w.heap.size+1+1) [.int .i64 r.kind.a,.int .i64 r.kind.b,.int .i64 r.kind.c] 113:=hK;go_wp2_with (first|(refine wpList_load_row rfl 113 (.tmp 3) rfl (w.heap.size+1+1) rfl 113 #[.int .i64 r.kind.a,.int .i64 r.kind.b,.int .i64 r.kind.c] (0,0) _ hK' underlying113 rfl infoW ?_)|(refine wpList_store_row rfl 113 (.tmp 2) _ rfl (w.heap.size+1) #[.int .i64 r.kind.a,.int .i64 r.kind.b,.int .i64 r.kind.c] rfl rfl 113 _ hO infoW rfl (oneW _ _ _) ?_));refine bodyPost_ret (v:=.agg #[.int .i64 r.kind.a,.int .i64 r.kind.b,.int .i64 r.kind.c]) (results_cell_row rfl _ _ (w.heap.size+1) 113 _ (0,0) _ rfl (setRow_heap _ (w.heap.size+1) _ _ _ _ hO) underlying113 rfl infoW) rfl ⟨rfl,below_setRow hB (by omega) _⟩
end
section
def R3.map(f:Int->Int)(r:R3):R3:=⟨f r.a,f r.b,f r.c⟩
def A4.map(f:Int->Int)(x:A4):A4:=⟨x.n,x.r.map f⟩
def RuD.map(f:Int->Int)(r:RuD):RuD:=⟨r.h.map f,r.b0.map f,r.b1.map f,r.b2.map f,r.b3.map f,r.pos,r.cnt⟩
def RuD.b(r:RuD):Nat->A4
 |0=>r.b0
 |1=>r.b1
 |2=>r.b2
 |_=>r.b3
theorem RuD.map_b(f:Int->Int)(r:RuD)(i:Nat):(r.map f).b i=(r.b i).map f:=by
 match i with
 |0=>rfl
 |1=>rfl
 |2=>rfl
 |_+3=>rfl
def R3.Has(r:R3)(t:Int):Prop:=t=r.a\/t=r.b\/t=r.c
theorem R3.map_has{f:Int->Int}{r:R3}{t:Int}:(r.map f).Has t↔ ∃y,r.Has y/\f y=t:=by
 unfold R3.Has R3.map;constructor
 ·rintro(h|h|h)
  ·exact⟨r.a,.inl rfl,h.symm⟩
  ·exact⟨r.b,.inr (.inl rfl),h.symm⟩
  ·exact⟨r.c,.inr (.inr rfl),h.symm⟩
 ·rintro⟨y,rfl|rfl|rfl,rfl⟩
  ·exact .inl rfl
  ·exact .inr (.inl rfl)
  ·exact .inr (.inr rfl)
theorem R3.map_map(f g:Int->Int)(r:R3):(r.map f).map g=r.map (fun x=>g (f x)):=rfl
theorem R3.map_congr{f g:Int->Int}{r:R3}(h:∀t,r.Has t->f t=g t):r.map f=r.map g:=by unfold R3.map;rw[h r.a (.inl rfl),h r.b (.inr (.inl rfl)),h r.c (.inr (.inr rfl))]
def R3.Ground(r:R3):Prop:=∀t,r.Has t->0<=t
def FixC(f:Int->Int):Prop:=∀c,0<=c->f c=c
structure Grd(f:Int->Int):Prop where
 fix:FixC f
 up:∀v,0<=f v
theorem R3.map_ground{f:Int->Int}(hf:FixC f){r:R3}(h:r.Ground):r.map f=r:=by have h2:r.map f=r.map id:=R3.map_congr fun t ht=>hf t (h t ht);rw[h2];rfl
theorem Grd.ground{f:Int->Int}(hf:Grd f)(r:R3):(r.map f).Ground:=by intro t ht;obtain⟨y,_,rfl⟩:=R3.map_has.1 ht;exact hf.up y
def zA4:A4:=⟨0,⟨0,0,0⟩⟩
structure RuD.Wf(r:RuD):Prop where
 cnt:r.cnt<=4
 pos:r.pos<=r.cnt
 z0:r.cnt<=0->r.b0=zA4
 z1:r.cnt<=1->r.b1=zA4
 z2:r.cnt<=2->r.b2=zA4
 z3:r.cnt<=3->r.b3=zA4
theorem zA4_map{f:Int->Int}(hf:FixC f):zA4.map f=zA4:=by unfold A4.map zA4 R3.map;simp[hf 0 (Int.le_refl _)]
theorem RuD.Wf.map{r:RuD}(h:r.Wf){f:Int->Int}(hf:FixC f):(r.map f).Wf:=
 ⟨h.cnt,h.pos,fun e=>by show r.b0.map f=_;rw[h.z0 e,zA4_map hf],fun e=>by show r.b1.map f=_;rw[h.z1 e,zA4_map hf],fun e=>by show r.b2.map f=_;rw[h.z2 e,zA4_map hf],fun e=>by show r.b3.map f=_;rw[h.z3 e,zA4_map hf]⟩
theorem swapT_fix{v o:Int}(hv:v<0):FixC (swapT v o):=by intro c hc;unfold swapT;rw[if_neg (by omega)]
theorem swap_map(r:R3)(v o:Int):r.swap v o=r.map (swapT v o):=rfl
theorem aswap_map(r:A4)(v o:Int):r.swap v o=r.map (swapT v o):=rfl
theorem RuD.swap_map{r:RuD}(h:r.Wf){v:Int}(hv:v<0)(o:Int):r.swap v o=r.map (swapT v o):=by
 have z:=fun(x:A4) (e:x=zA4)=>(show x.map (swapT v o)=x by rw[e,zA4_map (swapT_fix hv)]);have h0:=h.z0;have h1:=h.z1;have h2:=h.z2;have h3:=h.z3;unfold RuD.swap RuD.swapTo RuD.map;simp only[aswap_map];congr 1
 ·split
  ·rfl
  ·exact(z _ (h0 (by omega))).symm
 ·split
  ·rfl
  ·exact(z _ (h1 (by omega))).symm
 ·split
  ·rfl
  ·exact(z _ (h2 (by omega))).symm
 ·split
  ·rfl
  ·exact(z _ (h3 (by omega))).symm
def FitS.map(f:Int->Int)(s:FitS):FitS:=⟨s.r.map f,s.own.map f,s.other.map f⟩
structure Puts(a b:Int)(f:Int->Int):Prop where
 fix:FixC f
 same:f a=f b
 back:∀σ:Int->Int,σ a=σ b->∀x,σ (f x)=σ x
 keep:∀P:Int->Prop,P a->P b->∀x,P x->P (f x)
theorem puts_swap{a b:Int}(ha:a<0):Puts a b (swapT a b):=by
 refine⟨swapT_fix ha,?_,?_,?_⟩
 ·unfold swapT;rw[if_pos rfl]
  split<;>rfl
 ·intro σ h x;unfold swapT
  split
  ·rename_i e;rw[e,h]
  ·rfl
 ·intro P _ hb x hx;unfold swapT
  split
  ·exact hb
  ·exact hx
theorem FitS.step_some{s s':FitS}{a b:Int}(hw:s.r.Wf)(h:s.step a b=some s'):∃f,Puts a b f/\s'=s.map f:=by
 unfold FitS.step at h
 split at h
 ·rename_i ha
  split at h
  ·rename_i e
   injection h with h
   exact⟨id,⟨fun _ _=>rfl,by rw[e],fun _ _ _=>rfl,fun _ _ _ _ h=>h⟩,h.symm⟩
  ·injection h with h
   refine⟨swapT a b,puts_swap ha,?_⟩;rw[<-h];unfold FitS.swap FitS.map;rw[RuD.swap_map hw ha];rfl
 ·rename_i ha
  split at h
  ·rename_i e
   injection h with h
   exact⟨id,⟨fun _ _=>rfl,by rw[e],fun _ _ _=>rfl,fun _ _ _ _ h=>h⟩,h.symm⟩
  ·split at h
   ·rename_i hb
    injection h with h
    have p:=puts_swap (a:=b) (b:=a) hb;refine⟨swapT b a,⟨p.fix,p.same.symm,fun σ e=>p.back σ e.symm,fun P h1 h2=>p.keep P h2 h1⟩,?_⟩;rw[<-h];unfold FitS.swap FitS.map;rw[RuD.swap_map hw hb];rfl
   ·cases h
theorem FitS.step_none{s:FitS}{a b:Int}(h:s.step a b=none){σ:Int->Int}(hσ:FixC σ):σ a≠σ b:=by
 unfold FitS.step at h
 split at h
 ·split at h<;>cases h
 ·split at h
  ·cases h
  ·split at h
   ·cases h
   ·rw[hσ a (by omega),hσ b (by omega)];assumption
structure Fits(r:RuD)(own other:R3)(q:RuD)(f:Int->Int):Prop where
 fix:FixC f
 is:q=r.map f
 same:own.map f=other.map f
 back:∀σ:Int->Int,own.map σ=other.map σ->∀x,σ (f x)=σ x
 keep:∀P:Int->Prop,(∀t,own.Has t->P t)->(∀t,other.Has t->P t)->∀x,P x->P (f x)
theorem fit_some{r q:RuD}{own other:R3}(hw:r.Wf)(h:fitG r own other=some q):∃f,Fits r own other q f:=by
 unfold fitG FitS.rest at h;obtain⟨s1,h1,h⟩:=Option.bind_eq_some_iff.1 h;obtain⟨f1,p1,rfl⟩:=FitS.step_some hw h1;obtain⟨s2,h2,h⟩:=Option.bind_eq_some_iff.1 h;obtain⟨f2,p2,rfl⟩:=FitS.step_some (hw.map p1.fix) h2;obtain⟨s3,h3,h⟩:=Option.map_eq_some_iff.1 h;obtain⟨f3,p3,rfl⟩:=FitS.step_some ((hw.map p1.fix).map p2.fix) h3;have s1:f1 own.a=f1 other.a:=p1.same;have s2:f2 (f1 own.b)=f2 (f1 other.b):=p2.same;have s3:f3 (f2 (f1 own.c))=f3 (f2 (f1 other.c)):=p3.same;refine⟨fun x=>f3 (f2 (f1 x)),⟨fun c hc=>by rw[p1.fix c hc,p2.fix c hc,p3.fix c hc],h.symm,?_,?_,?_⟩⟩
 ·show R3.mk (f3 (f2 (f1 own.a))) (f3 (f2 (f1 own.b))) (f3 (f2 (f1 own.c)))=R3.mk (f3 (f2 (f1 other.a))) (f3 (f2 (f1 other.b))) (f3 (f2 (f1 other.c)));rw[s1,s2,s3]
 ·intro σ e x;unfold R3.map at e
  injection e with ea eb ec
  have b1:=p1.back σ ea;have b2:=p2.back σ (show σ (f1 own.b)=σ (f1 other.b) by rw[b1,b1,eb]);have b3:=p3.back σ (show σ (f2 (f1 own.c))=σ (f2 (f1 other.c)) by rw[b2,b2,b1,b1,ec]);rw[b3,b2,b1]
 ·intro P ho hp x hx;have k1:=p1.keep P (ho _ (.inl rfl)) (hp _ (.inl rfl));have k2:=p2.keep P (k1 _ (ho _ (.inr (.inl rfl)))) (k1 _ (hp _ (.inr (.inl rfl))));have k3:=p3.keep P (k2 _ (k1 _ (ho _ (.inr (.inr rfl))))) (k2 _ (k1 _ (hp _ (.inr (.inr rfl)))));exact k3 _ (k2 _ (k1 _ hx))
theorem fit_none{r:RuD}{own other:R3}(hw:r.Wf)(h:fitG r own other=none){σ:Int->Int}(hσ:FixC σ):own.map σ≠other.map σ:=by
 intro e;unfold R3.map at e
 injection e with ea eb ec
 have h:((FitS.mk r own other).step own.a other.a).bind (fun s=>(s.step s.own.b s.other.b).bind fun s=>(s.step s.own.c s.other.c).map FitS.r)=none:=h
 cases h1:(FitS.mk r own other).step own.a other.a with
 |none=>exact FitS.step_none h1 hσ ea
 |some s1=>
  obtain⟨f1,p1,rfl⟩:=FitS.step_some hw h1;have b1:=p1.back σ ea;rw[h1]at h;simp only[Option.bind_some]at h
  cases h2:((FitS.mk r own other).map f1).step ((FitS.mk r own other).map f1).own.b ((FitS.mk r own other).map f1).other.b with
  |none=>exact FitS.step_none h2 hσ (show σ (f1 own.b)=σ (f1 other.b) by rw[b1,b1,eb])
  |some s2=>
   obtain⟨f2,p2,rfl⟩:=FitS.step_some (hw.map p1.fix) h2;have b2:=p2.back σ (show σ (f1 own.b)=σ (f1 other.b) by rw[b1,b1,eb]);rw[h2]at h;simp only[Option.bind_some]at h
   cases h3:(((FitS.mk r own other).map f1).map f2).step (((FitS.mk r own other).map f1).map f2).own.c (((FitS.mk r own other).map f1).map f2).other.c with
   |none=>exact FitS.step_none h3 hσ (show σ (f2 (f1 own.c))=σ (f2 (f1 other.c)) by rw[b2,b2,b1,b1,ec])
   |some s3=>rw[h3]at h;cases h
def Inst(q x:R3):Prop:=∃σ,Grd σ/\q.map σ=x
theorem Inst.ground{q x:R3}(h:Inst q x):x.Ground:=by obtain⟨σ,hσ,rfl⟩:=h;exact hσ.ground q
theorem R3.first_has(r:R3)(v:Int)(h:r.Has v):0<=r.first v:=by
 unfold R3.first;rcases h with rfl|rfl|rfl
 ·simp
 ·split
  ·omega
  ·simp
 ·split
  ·omega
  ·split
   ·omega
   ·simp
def atPl(x:R3)(v:Int):Int:=if v= -1 then x.a else if v= -2 then x.b else if v= -3 then x.c else if v<0 then 0 else v
theorem inst_kind{r x:R3}:Inst r.kind x↔Inst r x:=by
 constructor
 ·rintro⟨σ,hσ,rfl⟩;refine⟨fun v=>if v<0 then σ (-1-r.first v) else v,⟨fun c hc=>if_neg (by omega),fun v=>?_⟩,?_⟩
  ·show 0<=(if v<0 then σ (-1-r.first v) else v)
   split
   ·exact hσ.up _
   ·omega
  ·have h:∀t,(if t<0 then σ (-1-r.first t) else t)=σ (r.kindT t):=by
    intro t;unfold R3.kindT
    split
    ·rfl
    ·exact(hσ.fix t (by omega)).symm
   unfold R3.map R3.kind;simp only[h]
 ·rintro⟨σ,hσ,rfl⟩;refine⟨atPl (r.map σ),⟨?_,?_⟩,?_⟩
  ·intro c hc;unfold atPl;rw[if_neg (by omega),if_neg (by omega),if_neg (by omega),if_neg (by omega)]
  ·intro v;unfold atPl R3.map;have:=hσ.up r.a;have:=hσ.up r.b;have:=hσ.up r.c
   split
   ·assumption
   ·split
    ·assumption
    ·split
     ·assumption
     ·split<;>omega
  ·have h:∀t,r.Has t->atPl (r.map σ) (r.kindT t)=σ t:=by
    intro t ht;unfold R3.kindT
    split
    ·rename_i hn;unfold R3.first atPl R3.map
     split
     ·rename_i e;simp[e]
     ·split
      ·rename_i e;simp[e]
      ·split
       ·rename_i e;simp[e]
       ·rcases ht with h|h|h<;>contradiction
    ·rename_i hn;unfold atPl;rw[if_neg (by omega),if_neg (by omega),if_neg (by omega),if_neg hn];exact(hσ.fix t (by omega)).symm
   unfold R3.map R3.kind;congr 1
   ·exact h _ (.inl rfl)
   ·exact h _ (.inr (.inl rfl))
   ·exact h _ (.inr (.inr rfl))
theorem kind_has{r:R3}{t:Int}(h:r.kind.Has t):(-3<=t/\t<0)\/(0<=t/\r.Has t):=by
 have k:∀y,r.Has y->(-3<=r.kindT y/\r.kindT y<0)\/(0<=r.kindT y/\r.kindT y=y):=by
  intro y hy;unfold R3.kindT;have h1:=r.first_has y hy;have h2:=(r.first_le y).2
  split
  ·left
   omega
  ·right
   omega
 rcases h with rfl|rfl|rfl
 ·rcases k r.a (.inl rfl) with h|⟨h,e⟩
  ·exact .inl h
  ·exact .inr ⟨h,.inl e⟩
 ·rcases k r.b (.inr (.inl rfl)) with h|⟨h,e⟩
  ·exact .inl h
  ·exact .inr ⟨h,.inr (.inl e)⟩
 ·rcases k r.c (.inr (.inr rfl)) with h|⟨h,e⟩
  ·exact .inl h
  ·exact .inr ⟨h,.inr (.inr e)⟩
end
end Go.Proofs.YtpbfiffgcgnidaaGreat
