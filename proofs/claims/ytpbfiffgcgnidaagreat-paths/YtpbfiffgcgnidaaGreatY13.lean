import Derived.Test.YtpbfiffgcgnidaaGreatYal
import Derived.WideKeyArr
import Derived.DeepKeys4
import Derived.Laws.Rows
import Derived.Laws.Tables
import Derived.Laws.CopyOwn
import Derived.Laws.ResultCell
import Derived.Test.YtpbfiffgcgnidaaGreatY8
namespace Go.Proofs.YtpbfiffgcgnidaaGreat
set_option maxRecDepth 100000
set_option maxHeartbeats 4000000
set_option linter.unusedSectionVars false
set_option linter.unusedSimpArgs false
open Go.Proofs.Tryz
section
open Go.RowKit Go.WideMaps Go.Maps
structure Ax(S:Nat->Prop)(w w':World):Prop where
 os:w'.os=w.os
 tape:w'.tape=w.tape
 output:w'.output=w.output
 size:w.heap.size<=w'.heap.size
 block:∀k,k<w.heap.size->¬S k->w'.heap[k]? =w.heap[k]?
theorem Ax.of_below{S:Nat->Prop}{w w':World}(h:Below w.heap.size w w'):Ax S w w':=⟨h.os,h.tape,h.output,h.size,fun k hk _=>h.block k hk⟩
theorem Ax.trans{S S':Nat->Prop}{w w1 w2:World}(h:Ax S w w1)(h':Ax S' w1 w2)(hS:∀k,k<w.heap.size->S' k->S k):Ax S w w2:=
 ⟨h'.os.trans h.os,h'.tape.trans h.tape,h'.output.trans h.output,Nat.le_trans h.size h'.size,fun k hk hn=>(h'.block k (Nat.lt_of_lt_of_le hk h.size) (fun e=>hn (hS k hk e))).trans (h.block k hk hn)⟩
theorem Ax.mono{S S':Nat->Prop}{w w':World}(h:Ax S w w')(hS:∀k,S k->S' k):Ax S' w w':=⟨h.os,h.tape,h.output,h.size,fun k hk hn=>h.block k hk (fun e=>hn (hS k e))⟩
theorem Ax.setCell{S:Nat->Prop}{w w':World}(h:Ax S w w'){p:Addr}(hp:S p.block\/w.heap.size<=p.block)(u:Value):Ax S w (w'.setCell p u):=
 ⟨h.os,h.tape,h.output,by rw[show(w'.setCell p u).heap.size=w'.heap.size by simp[World.setCell]];exact h.size,fun k hk hn=>(Below.heap_setCell w' p u k (by
   rintro rfl;rcases hp with hp|hp
   ·exact hn hp
   ·omega)).trans (h.block k hk hn)⟩
theorem Ax.alloc{S:Nat->Prop}{w w':World}(h:Ax S w w')(o:Obj):Ax S w (w'.alloc o):=
 ⟨h.os,h.tape,h.output,by have:=h.size;simp;omega,fun k hk hn=>(Below.heap_alloc w' o k (by have:=h.size;omega)).trans (h.block k hk hn)⟩
theorem Ax.drew{S:Nat->Prop}{w w':World}(h:Ax S w w'):Ax S w w'.drew:=⟨h.os,h.tape,h.output,h.size,h.block⟩
theorem Ax.below{S:Nat->Prop}{w w':World}{B:Nat}(h:Ax S w w')(hB:B<=w.heap.size)(hS:∀k,S k->B<=k):Below B w w':=⟨h.os,h.tape,h.output,h.size,fun k hk=>h.block k (by omega) (fun e=>by have:=hS k e;omega)⟩
theorem Ag.only{S:Nat->Prop}{w w':World}{b:Nat}{cs:List Value}{t:TypeId}(h:Ag w b cs t)(ho:Ax S w w')(hn:¬S b):Ag w' b cs t:=by have hlt:=h.lt;unfold Ag at*;rw[ho.block b hlt hn,h]
theorem AU{S:Nat->Prop}{w w':World}{base:Nat}{e:TypeId}{size:Nat}{v:Value}{n:Nat}{xs:List Value}(h:w.ownsRow base e size v n xs)(ho:Ax S w w')(hn:∀k,v.ownBlock=some k->¬S k):w'.ownsRow base e size v n xs:=by
 refine⟨h.1,?_⟩;rcases h.2 with hz|⟨g,cap,cur,rfl,hb,hg,r⟩
 ·exact .inl hz
 ·refine .inr ⟨g,cap,cur,rfl,hb,?_,r⟩;rw[ho.block g (Array.getElem?_eq_some_iff.1 hg).1 (hn g rfl),hg]
section
variable {P:Program} (w:World)
theorem IE(t ty e:TypeId)(i:TypeInfo)(z:Value)(base bytes:Nat)(ht:P.underlying t=some (.slice e))(hi:P.info? e=some i)(hz:i.zero=some z)(hby:i.bytes=bytes)
 (v:Value)(n:Nat)(xs:List Value)(hown:w.ownsRow base e i.size v n xs)(a:Addr)(m c:Nat)(news:List Value)(hm:0<m)(hl:news.length=m*i.size)(hnews:∀j u,news[j]? =some u->w.cell? (a.add j)=some u)(h1:∀u∈news,u.oneCell'=true)
 (h63:n+m<=maxLen)(hbytes:(n+m)*bytes<=140737488355328)(v':Value)(w':World)(hr:(Builtin.append_ #[t,t] ty #[v,.slice (some a) m c]).run P w=.ok v' w'):v'.ownBlock=v.ownBlock\/v'.ownBlock=some w.heap.size:=by
 subst hby;have h64:=h63;unfold maxLen at h64;rcases hown.2 with⟨rfl,rfl⟩|⟨g,cap,cur,rfl,_,hg,_,_,hcs,_⟩
 ·rw[run_append_nil (P:=P) w t ty e i z ht hi hz a m c news hl hnews hm (by omega) (by rw[Nat.zero_add]at hbytes;omega)]at hr
  injection hr with h2
  rw[<-h2];exact .inr rfl
 ·by_cases hroom:n+m<=cap
  ·rw[run_append_room (P:=P) w t ty e i ht hi g n cap cur hg a m c news hl hnews h1 hroom (by rw[hl,hcs,<-Nat.add_mul];exact Nat.mul_le_mul_right _ hroom)]at hr
   injection hr with h2
   rw[<-h2];exact .inl rfl
  ·rw[run_append_grow (P:=P) w t ty e i z ht hi hz ⟨g,0,none⟩ n cap xs hown.1 (hown.cells (g:=g) rfl) a m c news hl hnews (by omega) (by omega) (growslice_fits (by omega) hbytes)]at hr
   injection hr with h2
   rw[<-h2];exact .inr rfl
theorem E8{o:Oper}{a:Act}{K:Act->World->Prop}{Q:Exit->Act->World->Prop}(s x:Operand)(t:TypeId)(hop:o.op=.call { callee:=.builtin .append,args:=#[s,x],argTypes:=#[t,t] })
 (base:Nat)(e:TypeId)(i:TypeInfo)(z:Value)(size bytes:Nat)(ht:P.underlying t=some (.slice e))(hi:P.info? e=some i)(hz:i.zero=some z)(hsize:i.size=size)(hby:i.bytes=bytes)(hzs:z.cells.size=size)(hsz:0<size)
 (v:Value)(n:Nat)(xs:List Value)(hs:a.eval s=v)(hown:w.ownsRow base e size v n xs)(ad:Addr)(m c:Nat)(news:List Value)(hx:a.eval x=.slice (some ad) m c)(hm:0<m)(hl:news.length=m*size)(hnews:∀j u,news[j]? =some u->w.cell? (ad.add j)=some u)(h1:∀u∈news,u.oneCell'=true)
 (h63:n+m<=maxLen)(hbytes:(n+m)*bytes<=140737488355328)(hbase:base<=w.heap.size)
 (hK:∀g cap w',w'.ownsRow base e size (.slice (some ⟨g,0,none⟩) (n+m) cap) (n+m) (xs++news)->w.grownBy w' v.ownBlock->(some g=v.ownBlock\/g=w.heap.size)->K (a.put o.dst (.slice (some ⟨g,0,none⟩) (n+m) cap)) w'):o.wp P a w K Q:=by
 obtain⟨v',w',hr,h2,h3,_⟩:=run_append_own (P:=P) w base t o.type e i z size bytes ht hi hz hsize hby hzs hsz v n xs hown ad m c news hl hnews h1 h63 hbytes hbase;subst hsize;have hwh:=IE (P:=P) w t o.type e i z base bytes ht hi hz hby v n xs hown ad m c news hm hl hnews h1 h63 hbytes v' w' hr;unfold Oper.wp execOp;simp only[hop,resolve,invoke,builtin,Sem.run_bind,Sem.run_pure,Result.andThen_ok,List.map_toArray,List.map_cons,List.map_nil,hs,hx,hr];rcases h2.2 with⟨_,hn⟩|⟨g,cap,cur,rfl,_⟩
 ·omega
 ·exact hK g cap w' h2 h3 (by
   rcases hwh with h|h
   ·exact .inl h
   ·exact .inr (by simpa[Value.ownBlock]using h))
theorem Bz{ops:Array Oper}{o:Oper}{a:Act}{K:Act->World->Prop}{Q:Exit->Act->World->Prop}{E:Prop}
 (hgd:o.guard=none)(s x:Operand)(t:TypeId)(hop:o.op=.call { callee:=.builtin .append,args:=#[s,x],argTypes:=#[t,t] })
 (base:Nat)(e:TypeId)(i:TypeInfo)(z:Value)(size bytes:Nat)(ht:P.underlying t=some (.slice e))(hi:P.info? e=some i)(hz:i.zero=some z)(hsize:i.size=size)(hby:i.bytes=bytes)(hzs:z.cells.size=size)(hsz:0<size)
 (v:Value)(n:Nat)(xs:List Value)(hs:a.eval s=v)(hown:w.ownsRow base e size v n xs)(ad:Addr)(m c:Nat)(news:List Value)(hx:a.eval x=.slice (some ad) m c)(hm:0<m)(hl:news.length=m*size)(hnews:∀j u,news[j]? =some u->w.cell? (ad.add j)=some u)(h1:∀u∈news,u.oneCell'=true)
 (h63:n+m<=maxLen)(hbytes:(n+m)*bytes<=140737488355328)(hbase:base<=w.heap.size)
 (hK:∀g cap w',w'.ownsRow base e size (.slice (some ⟨g,0,none⟩) (n+m) cap) (n+m) (xs++news)->w.grownBy w' v.ownBlock->(some g=v.ownBlock\/g=w.heap.size)->K (a.put o.dst (.slice (some ⟨g,0,none⟩) (n+m) cap)) w'):
 if Region.wanted o (yielded ops a.tmps)=true then Oper.wp P o a w K Q else E:=by
 have hw:Region.wanted o (yielded ops a.tmps)=true:=by simp[Region.wanted,hgd]
 rw[if_pos hw];exact E8 w s x t hop base e i z size bytes ht hi hz hsize hby hzs hsz v n xs hs hown ad m c news hx hm hl hnews h1 h63 hbytes hbase hK
theorem Bp{ops:Array Oper}{rest:List Oper}{o:Oper}{a:Act}{Q:Exit->Act->World->Prop}(hgd:o.guard=none)(s x:Operand)(t:TypeId)(hop:o.op=.call { callee:=.builtin .append,args:=#[s,x],argTypes:=#[t,t] })
 (base:Nat)(e:TypeId)(i:TypeInfo)(z:Value)(size bytes:Nat)(ht:P.underlying t=some (.slice e))(hi:P.info? e=some i)(hz:i.zero=some z)(hsize:i.size=size)(hby:i.bytes=bytes)(hzs:z.cells.size=size)(hsz:0<size)
 (v:Value)(n:Nat)(xs:List Value)(hs:a.eval s=v)(hown:w.ownsRow base e size v n xs)(ad:Addr)(m c:Nat)(news:List Value)(hx:a.eval x=.slice (some ad) m c)(hm:0<m)(hl:news.length=m*size)(hnews:∀j u,news[j]? =some u->w.cell? (ad.add j)=some u)(h1:∀u∈news,u.oneCell'=true)
 (h63:n+m<=maxLen)(hbytes:(n+m)*bytes<=140737488355328)(hbase:base<=w.heap.size)
 (h:∀g cap w',w'.ownsRow base e size (.slice (some ⟨g,0,none⟩) (n+m) cap) (n+m) (xs++news)->w.grownBy w' v.ownBlock->(some g=v.ownBlock\/g=w.heap.size)->wpList P ops Q rest (a.put o.dst (.slice (some ⟨g,0,none⟩) (n+m) cap)) w'):wpList P ops Q (o::rest) a w:=
 wpList_plain hgd fun _ hK=>E8 w s x t hop base e i z size bytes ht hi hz hsize hby hzs hsz v n xs hs hown ad m c news hx hm hl hnews h1 h63 hbytes hbase fun g cap w' h2 h3 h4=>hK _ _ (h g cap w' h2 h3 h4)
end
end
section
open Go.RowKit Go.WideMaps Go.Maps
def AR{α:Type}[DecidableEq α](xs:List α)(k:α):Nat:=if k∈xs then xs.idxOf k else 0
theorem CE{α:Type}[DecidableEq α](xs:List α)(k:α)(hk:k∉xs):AR (xs++[k]) k=xs.length:=by simp[AR,List.idxOf_append,hk]
theorem Fa{α:Type}[DecidableEq α](xs:List α)(k j:α)(hj:¬j=k):AR (xs++[k]) j=AR xs j:=by
 by_cases hx:j∈xs
 ·simp[AR,hx,List.idxOf_append]
 ·simp[AR,hx,hj]
def A7{α:Type}[DecidableEq α](xs:List α)(k:α):List α:=if k∈xs then xs else xs++[k]
theorem Ct{w:World}{p:Addr}{v:Value}(h:w.cell? p=some v):p.block<w.heap.size:=by apply Classical.byContradiction;intro hn;have h0:w.heap[p.block]? =none:=Array.getElem?_eq_none (by omega);simp[World.cell?,h0]at h
def Pb(n:Int):Prop:= -9223372036854775808<=n/\n<=9223372036854775807
theorem Pb.wf{n:Int}(h:Pb n):(Lit.int .i64 n).wf=true:=WalkArith.wf_i64 h
structure R3 where
 a:Int
 b:Int
 c:Int
structure R3.Wf(r:R3):Prop where
 a:Pb r.a
 b:Pb r.b
 c:Pb r.c
def Ak(r:R3):List Value:=[.int .i64 r.a,.int .i64 r.b,.int .i64 r.c]
def OJ(r:R3):Value:=.agg #[.int .i64 r.a,.int .i64 r.b,.int .i64 r.c]
def FZ(r:R3):Lit:=.string (keyBytes [.int .i64 r.a,.int .i64 r.b,.int .i64 r.c])
structure A4 where
 n:Int
 r:R3
structure A4.Wf(x:A4):Prop where
 n:Pb x.n
 r:x.r.Wf
def Ba(x:A4):List Value:=.int .i64 x.n::Ak x.r
def OK(x:A4):Value:=.agg #[.int .i64 x.n,.int .i64 x.r.a,.int .i64 x.r.b,.int .i64 x.r.c]
def F0(x:A4):Lit:=.string (keyBytes [.int .i64 x.n,.int .i64 x.r.a,.int .i64 x.r.b,.int .i64 x.r.c])
def FA(k:Nat):Lit:=.int .i64 (k:Nat)
theorem Jb:laidOutB prog=true:=by kernel_rfl
theorem OD:KeyLaw prog 113:=deep_law_laid Jb (m:=3) (by decide) (by decide+kernel) (by kernel_rfl) (by kernel_rfl)
theorem OE:KeyLaw prog 115:=deep_law_laid Jb (m:=4) (by decide) (by decide+kernel) (by kernel_rfl) (by kernel_rfl)
theorem NT:Keyed prog 113:=Keyed.of_law OD
theorem NV:Keyed prog 115:=Keyed.of_law OE
theorem NU:Keyed prog 3:=int_keyed underlying3
theorem NS:Keyed prog 9:=string_keyed underlying9
theorem Pn(k:R3):WideAt.IsKeyLit (FZ k):=by simp[FZ,WideAt.IsKeyLit]
theorem Pp(k:A4):WideAt.IsKeyLit (F0 k):=by simp[F0,WideAt.IsKeyLit]
theorem Po(k:Nat):WideAt.IsKeyLit (FA k):=by simp[FA,WideAt.IsKeyLit]
theorem Pm(k:B8):WideAt.IsKeyLit (.string k):=by simp[WideAt.IsKeyLit]
theorem MK(k:Nat)(h:k<=1000000000000000):keyOf prog 3 (.int .i64 (k:Nat))=some (FA k):=keyOf_int_mk underlying3 (Pb.wf ⟨by omega,by omega⟩)
theorem MJ(k:B8)(h:k.length<=maxLen):keyOf prog 9 (.string (bs k))=some (.string k):=keyOf_string_mk underlying9 (by rw[Ga];exact h)
theorem Mb:∃m,prog.types.size=m+1:=⟨prog.types.size-1,by
 have h:0<prog.types.size:=of_decide_eq_true (by kernel_rfl)
 omega⟩
theorem PS:prog.keyType 113=true:=by kernel_rfl
theorem PT:prog.keyType 115=true:=by kernel_rfl
theorem PJ:prog.cellsOf 113=3:=by kernel_rfl
theorem PR:prog.cellsOf 115=4:=by kernel_rfl
theorem PV:prog.cellsOf 111=1:=by kernel_rfl
theorem PW:prog.cellsOf 3=1:=by kernel_rfl
theorem KM(k:R3)(h:k.Wf)(m:Nat):prog.keyLits (m+2) 113 (Ak k)=some [.int .i64 k.a,.int .i64 k.b,.int .i64 k.c]:=by unfold Program.keyLits;simp only[underlying113];rw[if_pos (by rw[PJ];rfl),show List.range 3=[0,1,2] from rfl,List.mapM_cons,List.mapM_cons,List.mapM_cons,List.mapM_nil];simp[PV,Ak,Program.keyLits,underlying111,h.a.wf,h.b.wf,h.c.wf]
theorem Il(k:R3)(h:k.Wf):keyOf prog 113 (OJ k)=some (FZ k):=by obtain⟨m,hm⟩:=Mb;have hl:=KM k h m;unfold keyOf;simp only[underlying113];rw[if_pos (by simp[PS,Value.formed,OJ,underlying113,PJ]),hm];show(prog.keyLits (m+2) 113 (Ak k)).map _=_;rw[hl];rfl
theorem M7(k:A4)(h:k.Wf)(m:Nat):prog.keyLits (m+3) 115 (Ba k)=some [.int .i64 k.n,.int .i64 k.r.a,.int .i64 k.r.b,.int .i64 k.r.c]:=by
 have hr:=KM k.r h.r m;have hn:prog.keyLits (m+2) 3 [.int .i64 k.n]=some [.int .i64 k.n]:=by unfold Program.keyLits;simp[underlying3,h.n.wf]
 unfold Program.keyLits;simp only[underlying115];rw[if_pos ⟨by rw[PR];rfl,by decide+kernel⟩];simp only[List.mapM_cons,List.mapM_nil,PW,PJ,Ba,List.drop_zero,List.take_succ_cons,List.take_zero,List.drop_succ_cons];rw[hn];have hc:(Ak k.r).take 3=Ak k.r:=rfl;rw[hc,hr];rfl
theorem Im(k:A4)(h:k.Wf):keyOf prog 115 (OK k)=some (F0 k):=by have hp:1<prog.types.size:=of_decide_eq_true (by kernel_rfl);obtain⟨m,hm⟩:∃m,prog.types.size=m+2:=⟨prog.types.size-2,by omega⟩;have hl:=M7 k h m;unfold keyOf;simp only[underlying115];rw[if_pos (by simp[PT,Value.formed,OK,underlying115,PR]),hm];show(prog.keyLits (m+3) 115 (Ba k)).map _=_;rw[hl];rfl
theorem PE(j k:R3)(hj:j.Wf)(hk:k.Wf)(h:FZ j=FZ k):j=k:=by have e:=OD.inj (Il j hj) (h▸Il k hk);simp only[OJ,Value.agg.injEq]at e;cases j;cases k;simp at e;simp[e]
theorem PG(j k:A4)(hj:j.Wf)(hk:k.Wf)(h:F0 j=F0 k):j=k:=by have e:=OE.inj (Im j hj) (h▸Im k hk);simp only[OK,Value.agg.injEq]at e;obtain⟨n,⟨a,b,c⟩⟩:=j;obtain⟨n',⟨a',b',c'⟩⟩:=k;simp at e;simp[e]
theorem PF(j k:Nat)(_:j<=1000000000000000)(_:k<=1000000000000000)(h:FA j=FA k):j=k:=by simp[FA]at h;omega
theorem PD(j k:B8)(_:j.length<=maxLen)(_:k.length<=maxLen)(h:Lit.string j=.string k):j=k:=by injection h
theorem Fe{S:Nat->Prop}{w w':World}{P:Program}{k:TypeId}{R:Value->Option (DataW Unit×List MemPlace)}{r n:Nat}{D:DataW Unit}(h:w.ownsMap P k R r n D)(ho:Ax S w w')(hn:¬S r):w'.ownsMap P k R r n D:=by have hlt:=h.lt;obtain⟨es,clock,hh,rest⟩:=h;exact⟨es,clock,by rw[ho.block r hlt hn];exact hh,rest⟩
def Af:Value->Option Nat
 |.map m=>m
 |_=>none
structure AV(w w':World)(sb:Nat)(mv lv mv' lv':Value):Prop where
 only:Ax (fun q=>q=sb\/Af mv=some q\/lv.ownBlock=some q) w w'
 map:Af mv'=Af mv\/∀q,Af mv'=some q->w.heap.size<=q
 row:lv'.ownBlock=lv.ownBlock\/∀q,lv'.ownBlock=some q->w.heap.size<=q
theorem Ax.grown{S:Nat->Prop}{w w1 w2:World}{row:Option Nat}(h:Ax S w w1)(hg:w1.grownBy w2 row)(hS:∀q,row=some q->S q\/w.heap.size<=q):Ax S w w2:=
 ⟨hg.os.trans h.os,hg.tape.trans h.tape,hg.output.trans h.output,Nat.le_trans h.size hg.size,fun q hq hn=>(hg.block q (Nat.lt_of_lt_of_le hq h.size) (fun e=>by
   rcases hS q e.symm with h1|h1
   ·exact hn h1
   ·omega)).trans (h.block q hq hn)⟩
theorem AV.still{w w':World}(h:Below w.heap.size w w')(sb:Nat)(mv lv:Value):AV w w' sb mv lv mv lv:=⟨Ax.of_below h,.inl rfl,.inl rfl⟩
theorem F6(cs:List Value)(o:Nat)(mv lv:Value)(h0:cs[o]? =some mv)(h1:cs[o+1]? =some lv):(cs.set o mv).set (o+1) lv=cs:=by
 obtain⟨l0,e0⟩:=List.getElem?_eq_some_iff.1 h0;obtain⟨l1,e1⟩:=List.getElem?_eq_some_iff.1 h1;have a:cs.set o mv=cs:=by rw[<-e0,List.set_getElem_self]
 rw[a,<-e1,List.set_getElem_self]
theorem F8(w:World)(k:TypeId)(R:Value->Option (DataW Unit×List MemPlace))(p:Addr):((w.setCell p (.map (some w.heap.size))).alloc (.map #[] 0)).ownsMap (H:=Unit) prog k R w.heap.size 0 (.map []):=by
 have h:=World.ownsMap_made (H:=Unit) (w.setCell p (.map (some w.heap.size))) prog k R;have e:(w.setCell p (.map (some w.heap.size))).heap.size=w.heap.size:=by simp[World.setCell]
 rwa [e]at h
theorem Ps:(prog.info? 3).map (fun i=>(i.zero,i.size,i.bytes))=some (some (.int .i64 0),1,8):=by kernel_rfl
theorem Pq:(prog.info? 9).map (fun i=>(i.zero,i.size,i.bytes))=some (some (.string ⟨#[]⟩),1,16):=by kernel_rfl
theorem Pr:(prog.info? 113).map (fun i=>(i.zero,i.size,i.bytes))=some (some (.agg #[.int .i64 0,.int .i64 0,.int .i64 0]),3,24):=by kernel_rfl
theorem Pt:(prog.info? 115).map (fun i=>(i.zero,i.size,i.bytes))=some (some (.agg #[.int .i64 0,.int .i64 0,.int .i64 0,.int .i64 0]),4,32):=by kernel_rfl
end
section
attribute [local go_sem] Ai Ae
open Go.RowKit Go.WideMaps Go.Maps
variable [DecidableEq R3] [DecidableEq A4]
def E2(D:DataW Unit)(xs:List R3):Prop:=
 IsMap D/\∀k:R3,k.Wf->Maps.has D (FZ k)=decide (k∈xs)/\D.atKey (FZ k) (.lit (.int .i64 0))=.lit (.int .i64 (AR xs k))
theorem E2.nil:E2 (.map []) []:=⟨isMap_empty,fun _ _=>⟨rfl,rfl⟩⟩
theorem E2.put{D:DataW Unit}{xs:List R3}(h:E2 D xs)(k:R3)(hw:k.Wf)(hk:k∉xs):E2 (D.put (FZ k) (.lit (.int .i64 xs.length))) (xs++[k]):=by
 refine⟨h.1.put _ _,fun j hj=>?_⟩;by_cases he:j=k
 ·subst he;rw[has_put_same h.1 (Pn j),atKey_put_same h.1 (Pn j),CE xs j hk];exact⟨by simp,rfl⟩
 ·have hne:(FZ j)≠(FZ k):=fun e=>he (PE j k hj hw e);rw[has_put_other hne,atKey_put_other hne,(h.2 j hj).1,(h.2 j hj).2,Fa xs k j he];exact⟨by simp[he],rfl⟩
def Bs(w:World)(base:Nat)(mv lv:Value)(xs:List R3):Prop:=
 w.ownsRow base 113 3 lv xs.length (xs.flatMap fun k=>(Ak k))/\(∀k∈xs,k.Wf)/\
 ((mv=.map none/\xs=[])\/∃r D,mv=.map (some r)/\base<=r/\w.ownsMap (H:=Unit) prog 113 (plainElem prog 3) r xs.length D/\E2 D xs)
theorem Bs.nil(w:World)(base:Nat):Bs w base (.map none) (.slice none 0 0) []:=⟨World.ownsRow_nil _ _ _ _,by simp,.inl ⟨rfl,rfl⟩⟩
theorem Bs.below{base:Nat}{w w':World}{mv lv:Value}{xs:List R3}(h:Bs w base mv lv xs)(hb:Below w.heap.size w w'):Bs w' base mv lv xs:=by
 refine⟨Aq h.1 hb,h.2.1,?_⟩;rcases h.2.2 with h2|⟨r,D,hm,hr,ho,hD⟩
 ·exact .inl h2
 ·exact .inr ⟨r,D,hm,hr,Cj ho hb,hD⟩
theorem Bs.only{S:Nat->Prop}{base:Nat}{w w':World}{mv lv:Value}{xs:List R3}(h:Bs w base mv lv xs)(ho:Ax S w w')(hl:∀q,lv.ownBlock=some q->¬S q)(hm:∀q,Af mv=some q->¬S q):Bs w' base mv lv xs:=by
 refine⟨AU h.1 ho hl,h.2.1,?_⟩;rcases h.2.2 with h2|⟨r,D,rfl,hr,hw,hD⟩
 ·exact .inl h2
 ·exact .inr ⟨r,D,rfl,hr,Fe hw ho (hm r rfl),hD⟩
theorem Bs.lt{base:Nat}{w:World}{mv lv:Value}{xs:List R3}(h:Bs w base mv lv xs):(∀q,lv.ownBlock=some q->base<=q/\q<w.heap.size)/\∀q,Af mv=some q->base<=q/\q<w.heap.size:=by
 refine⟨fun q hq=>h.1.lt q hq,?_⟩;rcases h.2.2 with⟨rfl,_⟩|⟨r,D,rfl,hr,hw,hD⟩
 ·intro q hq;simp[Af]at hq
 ·intro q hq;simp only[Af,Option.some.injEq]at hq;subst hq;exact⟨hr,hw.lt⟩
theorem Bs.alloc{base:Nat}{w:World}{mv lv:Value}{xs:List R3}(h:Bs w base mv lv xs)(o:Obj):Bs (w.alloc o) base mv lv xs:=h.below (Ac w o)
theorem Iq(w:World)(base sb o:Nat)(mv lv:Value)(xs:List R3)(k:R3)(c0:w.cell? ⟨sb,o,none⟩=some mv)(hS:Bs w base mv lv xs)(hk:k.Wf):
 Calls prog 161 #[.pointer (some ⟨sb,o,none⟩),(.agg #[.int .i64 k.a,.int .i64 k.b,.int .i64 k.c])] w fun e w'=>e=.returned (.tuple #[.int .i64 (AR xs k:Nat),.bool (decide (k∈xs))])/\Below w.heap.size w w':=by
 have hkey:keyOf prog 113 (.agg #[.int .i64 k.a,.int .i64 k.b,.int .i64 k.c])=some (FZ k):=Il k hk;have hsb:=Ct c0;have hB0:=Below.refl w.heap.size w;have hB1:=Ac w (.cells #[.int .i64 k.a,.int .i64 k.b,.int .i64 k.c] 113);rcases hS.2.2 with⟨rfl,rfl⟩|⟨r,D,rfl,hr,hown,hD⟩
 ·have hnil:=fun w:World=>look_nil (w:=w) true NT underlying147 (EL w) hkey;go_enter func161,ntmps161;go_wp2_with fail;go_region;go_wp2_with fail;go_ret2;exact⟨rfl,by first|exact hB0|exact hB1.drew⟩
 ·obtain⟨hh,ha⟩:=hD.2 k hk;obtain⟨p,HP⟩:∃p:Int,Hid (p=(AR xs k:Nat)):=⟨_,rfl⟩;rw[<-HP.out]at ha⊢;have look:∀W:World,W.ownsMap (H:=Unit) prog 113 (plainElem prog 3) r xs.length D->(Instr.lookup 147 (.map (some r)) (.agg #[.int .i64 k.a,.int .i64 k.b,.int .i64 k.c]) true).run prog W=.ok (.tuple #[.int .i64 p,.bool (decide (k∈xs))]) W:=by intro W hW;obtain⟨v,ps,hrun,hR⟩:=hW.look_ok NT underlying147 (EL W) (plainElem_int underlying3 (by decide)) hkey;obtain⟨c,rfl,hc,_⟩:=plainElem_int_inv underlying3 hR;have e:=congrArg Prod.fst hc;simp only[]at e;rw[ha]at e;simp at e;rw[hrun,hh,<-e]
  have l0:=look w hown;have l1:=look (w.alloc (.cells #[.int .i64 k.a,.int .i64 k.b,.int .i64 k.c] 113)).drew (by exact hown.alloc _);clear look;go_enter func161,ntmps161;go_wp2_with fail;go_region;go_wp2_with fail;go_ret2;exact⟨rfl,by first|exact hB0|exact hB1.drew⟩
theorem Ke(w:World)(base sb o:Nat)(mv lv:Value)(xs:List R3)(c1:w.cell? ⟨sb,o+1,none⟩=some lv)(hS:Bs w base mv lv xs):
 Calls prog 68 #[.pointer (some ⟨sb,o,none⟩)] w fun e w'=>e=.returned (.int .i64 xs.length)/\w'=w:=by
 obtain⟨ao,cap,rfl⟩:=Al hS.1;go_enter func68,ntmps68;go_wp2
 go_ret
 exact⟨rfl,rfl⟩
theorem Oe(w:World)(base sb o:Nat)(mv lv:Value)(xs:List R3)(k:R3)(c0:w.cell? ⟨sb,o,none⟩=some mv)(hS:Bs w base mv lv xs)(hk:k.Wf)(hx:k∈xs):
 Calls prog 157 #[.pointer (some ⟨sb,o,none⟩),(.agg #[.int .i64 k.a,.int .i64 k.b,.int .i64 k.c])] w fun e w'=>e=.returned (.tuple #[.int .i64 (AR xs k),.bool false])/\Below w.heap.size w w':=by
 obtain⟨p,HP⟩:∃p:Int,Hid (p=(AR xs k:Nat)):=⟨_,rfl⟩;have hsb:=Ct c0;have hB1:=Ac w (.cells #[.int .i64 k.a,.int .i64 k.b,.int .i64 k.c] 113);have hF0:=Iq w base sb o mv lv xs k c0 hS hk;have hF1:=Iq (w.alloc (.cells #[.int .i64 k.a,.int .i64 k.b,.int .i64 k.c] 113)) base sb o mv lv xs k (by rw[hB1.cell (p:=⟨sb,o,none⟩) hsb];exact c0) (hS.alloc _) hk;rw[decide_eq_true hx,<-HP.out]at hF0 hF1;rw[<-HP.out];go_enter func157,ntmps157;go_wp2_with (go_at_call 161;first|(refine hF0.mono ?_;rintro e w9 ⟨rfl,hB9⟩)|(refine hF1.mono ?_;rintro e w9 ⟨rfl,hB9⟩));go_ret2;exact⟨rfl,by first|exact hB9|exact hB1.trans (hB9.mono hB1.size)⟩
theorem Oi(w:World)(base sb o:Nat)(cs:List Value)(t:TypeId)(mv lv:Value)(xs:List R3)(k:R3)(hB:Ag w sb cs t)(h0:cs[o]? =some mv)(h1:cs[o+1]? =some lv)(hS:Bs w base mv lv xs)(hk:k.Wf)(hx:k∉xs)(hn:xs.length<=1000000000000)(ht:t≠113)(hbw:base<=w.heap.size):
 Calls prog 157 #[.pointer (some ⟨sb,o,none⟩),(.agg #[.int .i64 k.a,.int .i64 k.b,.int .i64 k.c])] w fun e w'=>e=.returned (.tuple #[.int .i64 xs.length,.bool true])/\
  ∃mv' lv',Ag w' sb ((cs.set o mv').set (o+1) lv') t/\Bs w' base mv' lv' (xs++[k])/\AV w w' sb mv lv mv' lv':=by
 have c0:w.cell? ⟨sb,o,none⟩=some mv:=(hB.cell o).trans h0;have hol:o+1<cs.length:=(List.getElem?_eq_some_iff.1 h1).1;have hkey:keyOf prog 113 (.agg #[.int .i64 k.a,.int .i64 k.b,.int .i64 k.c])=some (FZ k):=Il k hk;obtain⟨i1,hi1,hy0,hy1,hy2⟩:=info_parts Pr;obtain⟨pp,HP⟩:∃p:Int,Hid (p=(AR xs k:Nat)):=⟨_,rfl⟩;have hF:=Iq (w.alloc (.cells #[.int .i64 k.a,.int .i64 k.b,.int .i64 k.c] 113)) base sb o mv lv xs k (((hB.alloc _).cell o).trans h0) (hS.alloc _) hk;rw[decide_eq_false hx,<-HP.out]at hF;obtain⟨ao,cap,rfl⟩:=Al hS.1
 have hwx:∀j∈xs++[k],j.Wf:=by
  intro j hj;rw[List.mem_append,List.mem_singleton]at hj;rcases hj with hj|rfl
  ·exact hS.2.1 j hj
  ·exact hk
 have hfl:((xs++[k]).flatMap fun k=>(Ak k))=(xs.flatMap fun k=>(Ak k))++(Ak k):=by simp
 have HX:=AJ hx;have hsT:sb≠w.heap.size:=by have:=hB.lt;omega
 have hBa:=Ac w (.cells #[.int .i64 k.a,.int .i64 k.b,.int .i64 k.c] 113);rcases hS.2.2 with⟨rfl,rfl⟩|⟨r,D,rfl,hr,hown,hD⟩
 ·have hnil:=fun w:World=>run_eql_map_nil (P:=prog) w 147 113 3 none underlying147;have hmm:=@run_makeMap prog;clear hx c0;go_enter func157,ntmps157;go_wp2_with (go_at_call 161;refine hF.mono ?_;rintro e w9 ⟨rfl,hB9⟩;have hBw:=(hB.alloc (.cells #[.int .i64 k.a,.int .i64 k.b,.int .i64 k.c] 113)).below hB9;have hSw:=(hS.alloc (.cells #[.int .i64 k.a,.int .i64 k.b,.int .i64 k.c] 113)).below hB9;have hT9:Ag w9 w.heap.size (Ak k) 113:=(Ag.new w (Ak k) 113).below hB9;have hsa:=hBa.trans (hB9.mono hBa.size);have hs9:=hsa.size;have hTl:=hT9.lt;have hslt:=hBw.lt;have f0:=hBw.frozen;have y0:w9.cell? ⟨w.heap.size,0,none⟩=some (.int .i64 k.a):=hT9.cell 0;have y1:w9.cell? ⟨w.heap.size,1,none⟩=some (.int .i64 k.b):=hT9.cell 1;have y2:w9.cell? ⟨w.heap.size,2,none⟩=some (.int .i64 k.c):=hT9.cell 2;have g0:w9.cell? ⟨sb,o,none⟩=some (.map none):=(hBw.cell o).trans h0;have g1:w9.cell? ⟨sb,o+1,none⟩=some (.slice ao 0 cap):=(hBw.cell (o+1)).trans h1;have hsne:sb≠w9.heap.size:=(by omega));have hmade:=F8 w9 113 (plainElem prog 3) ⟨sb,o,none⟩;have hB0:Ag ((w9.setCell ⟨sb,o,none⟩ (.map (some w9.heap.size))).alloc (.map #[] 0)) sb (cs.set o (.map (some w9.heap.size))) t:=(hBw.setCell o (.map (some w9.heap.size))).alloc (.map #[] 0);have hT0:Ag ((w9.setCell ⟨sb,o,none⟩ (.map (some w9.heap.size))).alloc (.map #[] 0)) w.heap.size (Ak k) 113:=(hT9.setOther ⟨sb,o,none⟩ _ (Ne.symm hsT)).alloc (.map #[] 0);have hlr:=Dl hSw.1 (k:=w9.heap.size) (Nat.le_refl _);have hL0:=(AM hSw.1 ⟨sb,o,none⟩ (.map (some w9.heap.size)) (Ah hSw.1 hBw ht)).alloc (.map #[] 0);obtain⟨w1,hr1,hown1,hg1⟩:=World.ownsMap.update (w:=((w9.setCell ⟨sb,o,none⟩ (.map (some w9.heap.size))).alloc (.map #[] 0)).drew) (by exact hmade) NT underlying147 (by unfold maxLen;omega) hkey (plainElem_int underlying3 (a:=0) (by decide));have hB1:=hB0.drew.grown hg1 (by simpa using hsne.symm);have hT1:=hT0.drew.grown hg1 (by simp;omega);have hL1:w1.ownsRow base 113 3 (.slice ao 0 cap) 0 []:=World.ownsRow.kept (by exact hL0) hg1 (.inr hlr);have d0:w1.cell? ⟨sb,o,none⟩=some (.map (some w9.heap.size)):=by rw[hB1.cell o,List.getElem?_set_self (by omega)]
  have d1:w1.cell? ⟨sb,o+1,none⟩=some (.slice ao 0 cap):=by rw[hB1.cell (o+1),List.getElem?_set_ne (by omega)];exact h1
  have fB:=hB1.frozen;have hl1:=hB1.lt;have hTl1:=hT1.lt;have z0:w1.cell? ⟨w.heap.size,0,none⟩=some (.int .i64 k.a):=hT1.cell 0;have z1:w1.cell? ⟨w.heap.size,1,none⟩=some (.int .i64 k.b):=hT1.cell 1;have z2:w1.cell? ⟨w.heap.size,2,none⟩=some (.int .i64 k.c):=hT1.cell 2;go_region;have hL1a:(w1.alloc (.cells #[.int .i64 k.a,.int .i64 k.b,.int .i64 k.c] 113)).drew.ownsRow base 113 3 (.slice ao 0 cap) 0 []:=(by exact hL1.alloc _);have hnews:∀j u,((Ak k))[j]? =some u->(w1.alloc (.cells #[.int .i64 k.a,.int .i64 k.b,.int .i64 k.c] 113)).drew.cell? ((⟨w1.heap.size,0,none⟩:Addr).add j)=some u:=(by exact AP w1 (Ak k) 113);have hone:∀u∈(Ak k),u.oneCell'=true:=(by intro u hu;simp[Ak]at hu;rcases hu with rfl|rfl|rfl<;>rfl);have hbb:base<=(w1.alloc (.cells #[.int .i64 k.a,.int .i64 k.b,.int .i64 k.c] 113)).drew.heap.size:=by have:=hg1.size;simp at this;simp;omega
  go_wp2_with fail
  go_region_law (refine Bz _ rfl (.tmp 41) (.tmp 43) 148 rfl base 113 i1 _ 3 24 underlying148 hi1 hy0 hy1 hy2 rfl (by decide) (.slice ao 0 cap) 0 [] (by simp[Act.eval]) hL1a ⟨w1.heap.size,0,none⟩ 1 1 (Ak k) (by simp[Act.eval]) (by decide) rfl hnews hone (by unfold maxLen;omega) (by omega) hbb ?_;intro g cap2 w2 hL2 hg2 hwh;have hB2:=(hB1.alloc (.cells #[.int .i64 k.a,.int .i64 k.b,.int .i64 k.c] 113)).drew.grown hg2 (Ah hL1 hB1 ht);have e1:w2.cell? ⟨sb,o+1,none⟩=some (.slice ao 0 cap):=(by rw[hB2.cell (o+1),List.getElem?_set_ne (by omega)];exact h1);have fB2:=hB2.frozen)
  all_goals
   go_wp2_with fail;go_ret2;have hb1:base<=w1.heap.size:=by have:=hg1.size;simp at this;omega
   refine⟨rfl,.map (some w9.heap.size),.slice (some ⟨g,0,none⟩) 1 cap2,hB2.setCell (o+1) _,⟨?_,hwx,.inr ⟨w9.heap.size,_,rfl,by omega,?_,E2.nil.put k hk HX.out⟩⟩,?_⟩
   ·simpa using AM hL2 ⟨sb,o+1,none⟩ _ (Ah hL2 hB2 ht)
   ·have h2:=World.ownsMap.kept (w:=(w1.alloc (.cells #[.int .i64 k.a,.int .i64 k.b,.int .i64 k.c] 113)).drew) (by exact hown1.alloc _) hg2 (Ne.symm hlr);simpa using Cc h2 (An.setCell (b:=sb) w2 (p:=⟨sb,o+1,none⟩) rfl _) hsne.symm
   ·have hg1s:=hg1.size;have hg2s:=hg2.size;simp at hg1s hg2s;have k1:Ax (fun q=>q=sb\/Af (.map none)=some q\/(Value.slice ao 0 cap).ownBlock=some q) w w1:=(((Ax.of_below hsa).setCell (p:=⟨sb,o,none⟩) (.inl (.inl rfl)) _).alloc _).drew.grown hg1 (fun q hq=>.inr (by simp at hq;omega));refine⟨((k1.alloc _).drew.grown hg2 (fun q hq=>.inl (.inr (.inr hq)))).setCell (p:=⟨sb,o+1,none⟩) (.inl (.inl rfl)) _,.inr (fun q hq=>by simp[Af]at hq;omega),?_⟩;rcases hwh with hw|hw
    ·exact .inl hw
    ·exact .inr (fun q hq=>by simp[Value.ownBlock]at hq;simp at hw;omega)
 ·obtain⟨hh,ha⟩:=hD.2 k hk;rw[decide_eq_false hx]at hh;have hnil:=fun w:World=>run_eql_map_nil (P:=prog) w 147 113 3 (some r) underlying147;have hwf:(Lit.int .i64 (xs.length:Int)).wf=true:=WalkArith.wf_i64 (n:=(xs.length:Int)) ⟨by omega,by omega⟩;clear hx c0;go_enter func157,ntmps157;go_wp2_with (go_at_call 161;refine hF.mono ?_;rintro e w9 ⟨rfl,hB9⟩;have hBw:=(hB.alloc (.cells #[.int .i64 k.a,.int .i64 k.b,.int .i64 k.c] 113)).below hB9;have hSw:=(hS.alloc (.cells #[.int .i64 k.a,.int .i64 k.b,.int .i64 k.c] 113)).below hB9;have hT9:Ag w9 w.heap.size (Ak k) 113:=(Ag.new w (Ak k) 113).below hB9;have hsa:=hBa.trans (hB9.mono hBa.size);have hs9:=hsa.size;have hTl:=hT9.lt;have hslt:=hBw.lt;have f0:=hBw.frozen;have y0:w9.cell? ⟨w.heap.size,0,none⟩=some (.int .i64 k.a):=hT9.cell 0;have y1:w9.cell? ⟨w.heap.size,1,none⟩=some (.int .i64 k.b):=hT9.cell 1;have y2:w9.cell? ⟨w.heap.size,2,none⟩=some (.int .i64 k.c):=hT9.cell 2;have g0:w9.cell? ⟨sb,o,none⟩=some (.map (some r)):=(hBw.cell o).trans h0;have g1:w9.cell? ⟨sb,o+1,none⟩=some (.slice ao xs.length cap):=(hBw.cell (o+1)).trans h1);have hown9:=Cj (hown.alloc (.cells #[.int .i64 k.a,.int .i64 k.b,.int .i64 k.c] 113)) hB9;have hsr:=Cb hown9 hBw;have hTr:=Cb hown9 hT9;have hlr:=DC hown9 hSw.1;obtain⟨w1,hr1,hown1,hg1⟩:=World.ownsMap.update (w:=w9.drew) (by exact hown9) NT underlying147 (by unfold maxLen;omega) hkey (plainElem_int underlying3 (a:=(xs.length:Int)) hwf);have hB1:=hBw.drew.grown hg1 (by simpa using hsr.symm);have hT1:=hT9.drew.grown hg1 (by simpa using hTr.symm);have hL1:w1.ownsRow base 113 3 (.slice ao xs.length cap) xs.length (xs.flatMap fun k=>(Ak k)):=World.ownsRow.kept (by exact hSw.1) hg1 (.inr hlr);have d1:w1.cell? ⟨sb,o+1,none⟩=some (.slice ao xs.length cap):=(hB1.cell (o+1)).trans h1;have fB:=hB1.frozen;have hl1:=hB1.lt;have hTl1:=hT1.lt;have z0:w1.cell? ⟨w.heap.size,0,none⟩=some (.int .i64 k.a):=hT1.cell 0;have z1:w1.cell? ⟨w.heap.size,1,none⟩=some (.int .i64 k.b):=hT1.cell 1;have z2:w1.cell? ⟨w.heap.size,2,none⟩=some (.int .i64 k.c):=hT1.cell 2;go_region;have hL1a:(w1.alloc (.cells #[.int .i64 k.a,.int .i64 k.b,.int .i64 k.c] 113)).drew.ownsRow base 113 3 (.slice ao xs.length cap) xs.length (xs.flatMap fun k=>(Ak k)):=(by exact hL1.alloc _);have hnews:∀j u,((Ak k))[j]? =some u->(w1.alloc (.cells #[.int .i64 k.a,.int .i64 k.b,.int .i64 k.c] 113)).drew.cell? ((⟨w1.heap.size,0,none⟩:Addr).add j)=some u:=(by exact AP w1 (Ak k) 113);have hone:∀u∈(Ak k),u.oneCell'=true:=(by intro u hu;simp[Ak]at hu;rcases hu with rfl|rfl|rfl<;>rfl);have hbb:base<=(w1.alloc (.cells #[.int .i64 k.a,.int .i64 k.b,.int .i64 k.c] 113)).drew.heap.size:=by have:=hg1.size;simp at this;simp;omega
  go_wp2_with fail
  go_region_law (refine Bz _ rfl (.tmp 41) (.tmp 43) 148 rfl base 113 i1 _ 3 24 underlying148 hi1 hy0 hy1 hy2 rfl (by decide) (.slice ao xs.length cap) xs.length (xs.flatMap fun k=>(Ak k)) (by simp[Act.eval]) hL1a ⟨w1.heap.size,0,none⟩ 1 1 (Ak k) (by simp[Act.eval]) (by decide) rfl hnews hone (by unfold maxLen;omega) (by omega) hbb ?_;intro g cap2 w2 hL2 hg2 hwh;have hB2:=(hB1.alloc (.cells #[.int .i64 k.a,.int .i64 k.b,.int .i64 k.c] 113)).drew.grown hg2 (Ah hL1 hB1 ht);have e1:w2.cell? ⟨sb,o+1,none⟩=some (.slice ao xs.length cap):=((hB2.cell (o+1)).trans h1);have fB2:=hB2.frozen)
  all_goals
   go_wp2_with fail;go_ret2;have hgs1:=hg1.size;have hgs2:=hg2.size;simp at hgs1 hgs2;have hse:cs.set o (.map (some r))=cs:=by obtain⟨hl0,he0⟩:=List.getElem?_eq_some_iff.1 h0;rw[<-he0,List.set_getElem_self]
   refine⟨rfl,.map (some r),.slice (some ⟨g,0,none⟩) (xs.length+1) cap2,by rw[hse];exact hB2.setCell (o+1) _,⟨?_,hwx,.inr ⟨r,_,rfl,hr,?_,hD.put k hk HX.out⟩⟩,?_⟩
   ·rw[hfl];simpa using AM hL2 ⟨sb,o+1,none⟩ _ (Ah hL2 hB2 ht)
   ·have h2:=World.ownsMap.kept (w:=(w1.alloc (.cells #[.int .i64 k.a,.int .i64 k.b,.int .i64 k.c] 113)).drew) (by exact hown1.alloc _) hg2 (Ne.symm hlr);simpa using Cc h2 (An.setCell (b:=sb) w2 (p:=⟨sb,o+1,none⟩) rfl _) hsr.symm
   ·have k1:Ax (fun q=>q=sb\/Af (.map (some r))=some q\/(Value.slice ao xs.length cap).ownBlock=some q) w w1:=(Ax.of_below hsa).drew.grown hg1 (fun q hq=>.inl (.inr (.inl hq)));refine⟨((k1.alloc _).drew.grown hg2 (fun q hq=>.inl (.inr (.inr hq)))).setCell (p:=⟨sb,o+1,none⟩) (.inl (.inl rfl)) _,.inl rfl,?_⟩;rcases hwh with hw|hw
    ·exact .inl hw
    ·exact .inr (fun q hq=>by simp[Value.ownBlock]at hq;simp at hw;omega)
theorem On(w:World)(base sb o:Nat)(cs:List Value)(t:TypeId)(mv lv:Value)(xs:List R3)(k:R3)(hB:Ag w sb cs t)(h0:cs[o]? =some mv)(h1:cs[o+1]? =some lv)(hS:Bs w base mv lv xs)(hk:k.Wf)(hn:xs.length<=1000000000000)(ht:t≠113)(hbw:base<=w.heap.size):
 Calls prog 157 #[.pointer (some ⟨sb,o,none⟩),(.agg #[.int .i64 k.a,.int .i64 k.b,.int .i64 k.c])] w fun e w'=>e=.returned (.tuple #[.int .i64 (AR (A7 xs k) k:Nat),.bool (decide (k∉xs))])/\
  ∃mv' lv',Ag w' sb ((cs.set o mv').set (o+1) lv') t/\Bs w' base mv' lv' (A7 xs k)/\AV w w' sb mv lv mv' lv':=by
 by_cases hx:k∈xs
 ·refine(Oe w base sb o mv lv xs k ((hB.cell o).trans h0) hS hk hx).mono ?_;rintro e w' ⟨rfl,hB'⟩;refine⟨by simp[A7,hx],mv,lv,?_,?_,AV.still hB' sb mv lv⟩
  ·rw[F6 cs o mv lv h0 h1];exact hB.below hB'
  ·rw[A7,if_pos hx];exact hS.below hB'
 ·refine(Oi w base sb o cs t mv lv xs k hB h0 h1 hS hk hx hn ht hbw).mono ?_;rintro e w' ⟨rfl,mv',lv',a,b,c⟩;refine⟨?_,mv',lv',a,?_,c⟩
  ·rw[A7,if_neg hx,CE xs k hx];simp[hx]
  ·rw[A7,if_neg hx];exact b
end
section
attribute [local go_sem] Ai Ae
open Go.RowKit Go.WideMaps Go.Maps
def E3(D:DataW Unit)(xs:List Nat):Prop:=
 IsMap D/\∀k:Nat,k<=1000000000000000->Maps.has D (FA k)=decide (k∈xs)/\D.atKey (FA k) (.lit (.int .i64 0))=.lit (.int .i64 (AR xs k))
theorem E3.nil:E3 (.map []) []:=⟨isMap_empty,fun _ _=>⟨rfl,rfl⟩⟩
theorem E3.put{D:DataW Unit}{xs:List Nat}(h:E3 D xs)(k:Nat)(hw:k<=1000000000000000)(hk:k∉xs):E3 (D.put (FA k) (.lit (.int .i64 xs.length))) (xs++[k]):=by
 refine⟨h.1.put _ _,fun j hj=>?_⟩;by_cases he:j=k
 ·subst he;rw[has_put_same h.1 (Po j),atKey_put_same h.1 (Po j),CE xs j hk];exact⟨by simp,rfl⟩
 ·have hne:(FA j)≠(FA k):=fun e=>he (PF j k hj hw e);rw[has_put_other hne,atKey_put_other hne,(h.2 j hj).1,(h.2 j hj).2,Fa xs k j he];exact⟨by simp[he],rfl⟩
def Bt(w:World)(base:Nat)(mv lv:Value)(xs:List Nat):Prop:=
 w.ownsRow base 3 1 lv xs.length (xs.flatMap fun k=>[Value.int .i64 (k:Nat)])/\(∀k∈xs,k<=1000000000000000)/\
 ((mv=.map none/\xs=[])\/∃r D,mv=.map (some r)/\base<=r/\w.ownsMap (H:=Unit) prog 3 (plainElem prog 3) r xs.length D/\E3 D xs)
theorem Bt.nil(w:World)(base:Nat):Bt w base (.map none) (.slice none 0 0) []:=⟨World.ownsRow_nil _ _ _ _,by simp,.inl ⟨rfl,rfl⟩⟩
theorem Bt.below{base:Nat}{w w':World}{mv lv:Value}{xs:List Nat}(h:Bt w base mv lv xs)(hb:Below w.heap.size w w'):Bt w' base mv lv xs:=by
 refine⟨Aq h.1 hb,h.2.1,?_⟩;rcases h.2.2 with h2|⟨r,D,hm,hr,ho,hD⟩
 ·exact .inl h2
 ·exact .inr ⟨r,D,hm,hr,Cj ho hb,hD⟩
theorem Bt.only{S:Nat->Prop}{base:Nat}{w w':World}{mv lv:Value}{xs:List Nat}(h:Bt w base mv lv xs)(ho:Ax S w w')(hl:∀q,lv.ownBlock=some q->¬S q)(hm:∀q,Af mv=some q->¬S q):Bt w' base mv lv xs:=by
 refine⟨AU h.1 ho hl,h.2.1,?_⟩;rcases h.2.2 with h2|⟨r,D,rfl,hr,hw,hD⟩
 ·exact .inl h2
 ·exact .inr ⟨r,D,rfl,hr,Fe hw ho (hm r rfl),hD⟩
theorem Bt.lt{base:Nat}{w:World}{mv lv:Value}{xs:List Nat}(h:Bt w base mv lv xs):(∀q,lv.ownBlock=some q->base<=q/\q<w.heap.size)/\∀q,Af mv=some q->base<=q/\q<w.heap.size:=by
 refine⟨fun q hq=>h.1.lt q hq,?_⟩;rcases h.2.2 with⟨rfl,_⟩|⟨r,D,rfl,hr,hw,hD⟩
 ·intro q hq;simp[Af]at hq
 ·intro q hq;simp only[Af,Option.some.injEq]at hq;subst hq;exact⟨hr,hw.lt⟩
theorem Bt.alloc{base:Nat}{w:World}{mv lv:Value}{xs:List Nat}(h:Bt w base mv lv xs)(o:Obj):Bt (w.alloc o) base mv lv xs:=h.below (Ac w o)
theorem Ir(w:World)(base sb o:Nat)(mv lv:Value)(xs:List Nat)(k:Nat)(c0:w.cell? ⟨sb,o,none⟩=some mv)(hS:Bt w base mv lv xs)(hk:k<=1000000000000000):
 Calls prog 145 #[.pointer (some ⟨sb,o,none⟩),(.int .i64 (k:Nat))] w fun e w'=>e=.returned (.tuple #[.int .i64 (AR xs k:Nat),.bool (decide (k∈xs))])/\Below w.heap.size w w':=by
 have hkey:keyOf prog 3 (.int .i64 (k:Nat))=some (FA k):=MK k hk;have hsb:=Ct c0;have hB0:=Below.refl w.heap.size w;have hB1:=Ac w (.cells #[.int .i64 (k:Nat)] 3);rcases hS.2.2 with⟨rfl,rfl⟩|⟨r,D,rfl,hr,hown,hD⟩
 ·have hnil:=fun w:World=>look_nil (w:=w) true NU underlying178 (EL w) hkey;go_enter func145,ntmps145;go_wp2;go_ret2;exact⟨rfl,by first|exact hB0|exact hB1.drew⟩
 ·obtain⟨hh,ha⟩:=hD.2 k hk;obtain⟨p,HP⟩:∃p:Int,Hid (p=(AR xs k:Nat)):=⟨_,rfl⟩;rw[<-HP.out]at ha⊢;have look:∀W:World,W.ownsMap (H:=Unit) prog 3 (plainElem prog 3) r xs.length D->(Instr.lookup 178 (.map (some r)) (.int .i64 (k:Nat)) true).run prog W=.ok (.tuple #[.int .i64 p,.bool (decide (k∈xs))]) W:=by intro W hW;obtain⟨v,ps,hrun,hR⟩:=hW.look_ok NU underlying178 (EL W) (plainElem_int underlying3 (by decide)) hkey;obtain⟨c,rfl,hc,_⟩:=plainElem_int_inv underlying3 hR;have e:=congrArg Prod.fst hc;simp only[]at e;rw[ha]at e;simp at e;rw[hrun,hh,<-e]
  have l0:=look w hown;have l1:=look (w.alloc (.cells #[.int .i64 (k:Nat)] 3)).drew (by exact hown.alloc _);clear look;go_enter func145,ntmps145;go_wp2;go_ret2;exact⟨rfl,by first|exact hB0|exact hB1.drew⟩
theorem MG(w:World)(base sb o:Nat)(mv lv:Value)(xs:List Nat)(c1:w.cell? ⟨sb,o+1,none⟩=some lv)(hS:Bt w base mv lv xs):
 Calls prog 122 #[.pointer (some ⟨sb,o,none⟩)] w fun e w'=>e=.returned (.int .i64 xs.length)/\w'=w:=by
 obtain⟨ao,cap,rfl⟩:=Al hS.1;go_enter func122,ntmps122;go_wp2
 go_ret
 exact⟨rfl,rfl⟩
theorem Of(w:World)(base sb o:Nat)(mv lv:Value)(xs:List Nat)(k:Nat)(c0:w.cell? ⟨sb,o,none⟩=some mv)(hS:Bt w base mv lv xs)(hk:k<=1000000000000000)(hx:k∈xs):
 Calls prog 121 #[.pointer (some ⟨sb,o,none⟩),(.int .i64 (k:Nat))] w fun e w'=>e=.returned (.tuple #[.int .i64 (AR xs k),.bool false])/\Below w.heap.size w w':=by
 obtain⟨p,HP⟩:∃p:Int,Hid (p=(AR xs k:Nat)):=⟨_,rfl⟩;have hsb:=Ct c0;have hB1:=Ac w (.cells #[.int .i64 (k:Nat)] 3);have hF0:=Ir w base sb o mv lv xs k c0 hS hk;have hF1:=Ir (w.alloc (.cells #[.int .i64 (k:Nat)] 3)) base sb o mv lv xs k (by rw[hB1.cell (p:=⟨sb,o,none⟩) hsb];exact c0) (hS.alloc _) hk;rw[decide_eq_true hx,<-HP.out]at hF0 hF1;rw[<-HP.out];go_enter func121,ntmps121;go_wp2_with (go_at_call 145;first|(refine hF0.mono ?_;rintro e w9 ⟨rfl,hB9⟩)|(refine hF1.mono ?_;rintro e w9 ⟨rfl,hB9⟩));go_ret2;exact⟨rfl,by first|exact hB9|exact hB1.trans (hB9.mono hB1.size)⟩
theorem Oj(w:World)(base sb o:Nat)(cs:List Value)(t:TypeId)(mv lv:Value)(xs:List Nat)(k:Nat)(hB:Ag w sb cs t)(h0:cs[o]? =some mv)(h1:cs[o+1]? =some lv)(hS:Bt w base mv lv xs)(hk:k<=1000000000000000)(hx:k∉xs)(hn:xs.length<=1000000000000)(ht:t≠3)(hbw:base<=w.heap.size):
 Calls prog 121 #[.pointer (some ⟨sb,o,none⟩),(.int .i64 (k:Nat))] w fun e w'=>e=.returned (.tuple #[.int .i64 xs.length,.bool true])/\
  ∃mv' lv',Ag w' sb ((cs.set o mv').set (o+1) lv') t/\Bt w' base mv' lv' (xs++[k])/\AV w w' sb mv lv mv' lv':=by
 have c0:w.cell? ⟨sb,o,none⟩=some mv:=(hB.cell o).trans h0;have hol:o+1<cs.length:=(List.getElem?_eq_some_iff.1 h1).1;have hkey:keyOf prog 3 (.int .i64 (k:Nat))=some (FA k):=MK k hk;obtain⟨i1,hi1,hy0,hy1,hy2⟩:=info_parts Ps;obtain⟨pp,HP⟩:∃p:Int,Hid (p=(AR xs k:Nat)):=⟨_,rfl⟩;have hF:=Ir w base sb o mv lv xs k c0 hS hk;rw[decide_eq_false hx,<-HP.out]at hF;obtain⟨ao,cap,rfl⟩:=Al hS.1
 have hwx:∀j∈xs++[k],j<=1000000000000000:=by
  intro j hj;rw[List.mem_append,List.mem_singleton]at hj;rcases hj with hj|rfl
  ·exact hS.2.1 j hj
  ·exact hk
 have hfl:((xs++[k]).flatMap fun k=>[Value.int .i64 (k:Nat)])=(xs.flatMap fun k=>[Value.int .i64 (k:Nat)])++[Value.int .i64 (k:Nat)]:=by simp
 have HX:=AJ hx;rcases hS.2.2 with⟨rfl,rfl⟩|⟨r,D,rfl,hr,hown,hD⟩
 ·have hnil:=fun w:World=>run_eql_map_nil (P:=prog) w 178 3 3 none underlying178;have hmm:=@run_makeMap prog;clear hx c0;go_enter func121,ntmps121;go_wp2_with (first|(go_at_call 145;refine hF.mono ?_;rintro e w9 ⟨rfl,hB9⟩;have hBw:=hB.below hB9;have hSw:=hS.below hB9;have hs9:=hB9.size;have g0:w9.cell? ⟨sb,o,none⟩=some (.map none):=(hBw.cell o).trans h0;have g1:w9.cell? ⟨sb,o+1,none⟩=some (.slice ao 0 cap):=(hBw.cell (o+1)).trans h1;have hslt:=hBw.lt;have f0:=hBw.frozen;have hsne:sb≠w9.heap.size:=(by omega);have hmade:((w9.setCell ⟨sb,o,none⟩ (.map (some w9.heap.size))).alloc (.map #[] 0)).ownsMap (H:=Unit) prog 3 (plainElem prog 3) w9.heap.size 0 (.map []):=(F8 _ _ _ _);have hB0:Ag ((w9.setCell ⟨sb,o,none⟩ (.map (some w9.heap.size))).alloc (.map #[] 0)) sb (cs.set o (.map (some w9.heap.size))) t:=(hBw.setCell o (.map (some w9.heap.size))).alloc (.map #[] 0);have hlr:=Dl hSw.1 (k:=w9.heap.size) (Nat.le_refl _);have hL0:=(AM hSw.1 ⟨sb,o,none⟩ (.map (some w9.heap.size)) (Ah hSw.1 hBw ht)).alloc (.map #[] 0))|(at_mapUpdate;refine wpList_mapUpdate_own _ rfl _ _ _ 178 rfl 3 3 NU underlying178 _ w9.heap.size 0 (.map []) rfl hmade (by unfold maxLen;omega) _ _ _ rfl rfl hkey _ [] (plainElem_int underlying3 (by decide)) ?_;intro w1 hown1 hg1;have hB1:=hB0.grown hg1 (by simpa using hsne.symm);have hL1:=hL0.kept hg1 (.inr hlr);have d0:w1.cell? ⟨sb,o,none⟩=some (.map (some w9.heap.size)):=(by rw[hB1.cell o,List.getElem?_set_self (by omega)]);have d1:w1.cell? ⟨sb,o+1,none⟩=some (.slice ao 0 cap):=(by rw[hB1.cell (o+1),List.getElem?_set_ne (by omega)];exact h1);have fB:=hB1.frozen;have hl1:=hB1.lt)|(at_builtin;refine Bp _ rfl _ _ 22 rfl base 3 i1 _ 1 8 underlying22 hi1 hy0 hy1 hy2 rfl (by decide) _ 0 [] rfl (hL1.alloc _) ⟨w1.heap.size,0,none⟩ 1 1 [Value.int .i64 (k:Nat)] rfl (by decide) rfl (AP _ _ _) (by intro u hu;simp at hu;subst hu;rfl) (by unfold maxLen;omega) (by omega) (by have:=hg1.size;simp at this;simp;omega) ?_;intro g cap2 w2 hL2 hg2 hwh;have hB2:=(hB1.alloc _).grown hg2 (Ah hL1 hB1 ht);have e1:w2.cell? ⟨sb,o+1,none⟩=some (.slice ao 0 cap):=(by rw[hB2.cell (o+1),List.getElem?_set_ne (by omega)];exact h1);have fB2:=hB2.frozen));go_ret2;have hb1:base<=w1.heap.size:=by have:=hg1.size;simp at this;omega
  refine⟨rfl,.map (some w9.heap.size),.slice (some ⟨g,0,none⟩) 1 cap2,hB2.setCell (o+1) _,⟨?_,hwx,.inr ⟨w9.heap.size,_,rfl,by omega,?_,E3.nil.put k hk HX.out⟩⟩,?_⟩
  ·simpa using AM hL2 ⟨sb,o+1,none⟩ _ (Ah hL2 hB2 ht)
  ·have h2:=(hown1.alloc _).kept hg2 (Ne.symm hlr);simpa using Cc h2 (An.setCell (b:=sb) w2 (p:=⟨sb,o+1,none⟩) rfl _) hsne.symm
  ·have hg1s:=hg1.size;have hg2s:=hg2.size;simp at hg1s hg2s;have k1:Ax (fun q=>q=sb\/Af (.map none)=some q\/(Value.slice ao 0 cap).ownBlock=some q) w w1:=(((Ax.of_below hB9).setCell (p:=⟨sb,o,none⟩) (.inl (.inl rfl)) _).alloc _).grown hg1 (fun q hq=>.inr (by simp at hq;omega));refine⟨((k1.alloc _).grown hg2 (fun q hq=>.inl (.inr (.inr hq)))).setCell (p:=⟨sb,o+1,none⟩) (.inl (.inl rfl)) _,.inr (fun q hq=>by simp[Af]at hq;omega),?_⟩;rcases hwh with hw|hw
   ·exact .inl hw
   ·exact .inr (fun q hq=>by simp[Value.ownBlock]at hq;simp at hw;omega)
 ·obtain⟨hh,ha⟩:=hD.2 k hk;rw[decide_eq_false hx]at hh;have hnil:=fun w:World=>run_eql_map_nil (P:=prog) w 178 3 3 (some r) underlying178;have hwf:(Lit.int .i64 (xs.length:Int)).wf=true:=WalkArith.wf_i64 (n:=(xs.length:Int)) ⟨by omega,by omega⟩;clear hx c0;go_enter func121,ntmps121;go_wp2_with (first|(go_at_call 145;refine hF.mono ?_;rintro e w9 ⟨rfl,hB9⟩;have hBw:=hB.below hB9;have hSw:=hS.below hB9;have hs9:=hB9.size;have g0:w9.cell? ⟨sb,o,none⟩=some (.map (some r)):=(hBw.cell o).trans h0;have g1:w9.cell? ⟨sb,o+1,none⟩=some (.slice ao xs.length cap):=(hBw.cell (o+1)).trans h1;have hslt:=hBw.lt;have f0:=hBw.frozen;have hown9:=Cj hown hB9;have hsr:=Cb hown9 hBw;have hlr:=DC hown9 hSw.1)|(at_mapUpdate;refine wpList_mapUpdate_own _ rfl _ _ _ 178 rfl 3 3 NU underlying178 _ r xs.length D rfl hown9 (by unfold maxLen;omega) _ _ _ rfl rfl hkey _ [] (plainElem_int underlying3 hwf) ?_;intro w1 hown1 hg1;have hB1:=hBw.grown hg1 (by simpa using hsr.symm);have hL1:=hSw.1.kept hg1 (.inr hlr);have d1:w1.cell? ⟨sb,o+1,none⟩=some (.slice ao xs.length cap):=((hB1.cell (o+1)).trans h1);have fB:=hB1.frozen;have hl1:=hB1.lt)|(at_builtin;refine Bp _ rfl _ _ 22 rfl base 3 i1 _ 1 8 underlying22 hi1 hy0 hy1 hy2 rfl (by decide) _ xs.length _ rfl (hL1.alloc _) ⟨w1.heap.size,0,none⟩ 1 1 [Value.int .i64 (k:Nat)] rfl (by decide) rfl (AP _ _ _) (by intro u hu;simp at hu;subst hu;rfl) (by unfold maxLen;omega) (by omega) (by have:=hg1.size;simp;omega) ?_;intro g cap2 w2 hL2 hg2 hwh;have hB2:=(hB1.alloc _).grown hg2 (Ah hL1 hB1 ht);have e1:w2.cell? ⟨sb,o+1,none⟩=some (.slice ao xs.length cap):=((hB2.cell (o+1)).trans h1);have fB2:=hB2.frozen));go_ret2;have hgs1:=hg1.size;have hgs2:=hg2.size;simp at hgs2;have hse:cs.set o (.map (some r))=cs:=by obtain⟨hl0,he0⟩:=List.getElem?_eq_some_iff.1 h0;rw[<-he0,List.set_getElem_self]
  refine⟨rfl,.map (some r),.slice (some ⟨g,0,none⟩) (xs.length+1) cap2,by rw[hse];exact hB2.setCell (o+1) _,⟨?_,hwx,.inr ⟨r,_,rfl,hr,?_,hD.put k hk HX.out⟩⟩,?_⟩
  ·rw[hfl];simpa using AM hL2 ⟨sb,o+1,none⟩ _ (Ah hL2 hB2 ht)
  ·have h2:=(hown1.alloc _).kept hg2 (Ne.symm hlr);simpa using Cc h2 (An.setCell (b:=sb) w2 (p:=⟨sb,o+1,none⟩) rfl _) hsr.symm
  ·have k1:Ax (fun q=>q=sb\/Af (.map (some r))=some q\/(Value.slice ao xs.length cap).ownBlock=some q) w w1:=(Ax.of_below hB9).grown hg1 (fun q hq=>.inl (.inr (.inl hq)));refine⟨((k1.alloc _).grown hg2 (fun q hq=>.inl (.inr (.inr hq)))).setCell (p:=⟨sb,o+1,none⟩) (.inl (.inl rfl)) _,.inl rfl,?_⟩;rcases hwh with hw|hw
   ·exact .inl hw
   ·exact .inr (fun q hq=>by simp[Value.ownBlock]at hq;simp at hw;omega)
theorem Oo(w:World)(base sb o:Nat)(cs:List Value)(t:TypeId)(mv lv:Value)(xs:List Nat)(k:Nat)(hB:Ag w sb cs t)(h0:cs[o]? =some mv)(h1:cs[o+1]? =some lv)(hS:Bt w base mv lv xs)(hk:k<=1000000000000000)(hn:xs.length<=1000000000000)(ht:t≠3)(hbw:base<=w.heap.size):
 Calls prog 121 #[.pointer (some ⟨sb,o,none⟩),(.int .i64 (k:Nat))] w fun e w'=>e=.returned (.tuple #[.int .i64 (AR (A7 xs k) k:Nat),.bool (decide (k∉xs))])/\
  ∃mv' lv',Ag w' sb ((cs.set o mv').set (o+1) lv') t/\Bt w' base mv' lv' (A7 xs k)/\AV w w' sb mv lv mv' lv':=by
 by_cases hx:k∈xs
 ·refine(Of w base sb o mv lv xs k ((hB.cell o).trans h0) hS hk hx).mono ?_;rintro e w' ⟨rfl,hB'⟩;refine⟨by simp[A7,hx],mv,lv,?_,?_,AV.still hB' sb mv lv⟩
  ·rw[F6 cs o mv lv h0 h1];exact hB.below hB'
  ·rw[A7,if_pos hx];exact hS.below hB'
 ·refine(Oj w base sb o cs t mv lv xs k hB h0 h1 hS hk hx hn ht hbw).mono ?_;rintro e w' ⟨rfl,mv',lv',a,b,c⟩;refine⟨?_,mv',lv',a,?_,c⟩
  ·rw[A7,if_neg hx,CE xs k hx];simp[hx]
  ·rw[A7,if_neg hx];exact b
theorem GH(a b c:Int)(w:World):(Instr.index 113 (.agg #[.int .i64 a,.int .i64 b,.int .i64 c]) (.int .i64 0)).run prog w=.ok (.int .i64 a) w:=by kernel_rfl
theorem GG(a b c:Int)(w:World):(Instr.index 113 (.agg #[.int .i64 a,.int .i64 b,.int .i64 c]) (.int .i64 1)).run prog w=.ok (.int .i64 b) w:=by kernel_rfl
theorem GF(a b c:Int)(w:World):(Instr.index 113 (.agg #[.int .i64 a,.int .i64 b,.int .i64 c]) (.int .i64 2)).run prog w=.ok (.int .i64 c) w:=by kernel_rfl
def AO(v o t:Int):Int:=if t=v then o else t
def R3.swap(r:R3)(v o:Int):R3:=⟨AO v o r.a,AO v o r.b,AO v o r.c⟩
def R3.swapTo(r:R3)(v o:Int)(i:Nat):R3:=⟨if 0<i then AO v o r.a else r.a,if 1<i then AO v o r.b else r.b,if 2<i then AO v o r.c else r.c⟩
theorem Cg(w:World)(t:Int):Calls prog 153 #[.int .i64 t] w fun e w'=>e=.returned (.bool (decide (t<0)))/\w'=w:=by
 by_cases h:t<0
 ·go_enter func153,ntmps153;go_wp2_with fail
  go_ret
  exact⟨by simp[h],rfl⟩
 ·go_enter func153,ntmps153;go_wp2_with fail
  go_ret
  exact⟨by simp[h],rfl⟩
theorem Fu(w:World)(r:R3)(v o:Int):Calls prog 160 #[.agg #[.int .i64 r.a,.int .i64 r.b,.int .i64 r.c],.int .i64 v,.int .i64 o] w fun e w'=>e=.returned (.agg #[.int .i64 (r.swap v o).a,.int .i64 (r.swap v o).b,.int .i64 (r.swap v o).c])/\Below w.heap.size w w':=by
 have hR0:=(Ag.new w (Ak r) 113).alloc (.cells #[.int .i64 0,.int .i64 0,.int .i64 0] 113);have hO0:=Ag.new (w.alloc (.cells #[.int .i64 r.a,.int .i64 r.b,.int .i64 r.c] 113)) [.int .i64 0,.int .i64 0,.int .i64 0] 113;rw[show(w.alloc (.cells #[.int .i64 r.a,.int .i64 r.b,.int .i64 r.c] 113)).heap.size=w.heap.size+1 by simp]at hO0;have hB0:=((Below.refl w.heap.size w).alloc (Nat.le_refl _) (.cells #[.int .i64 r.a,.int .i64 r.b,.int .i64 r.c] 113)).alloc (by simp) (.cells #[.int .i64 0,.int .i64 0,.int .i64 0] 113);have i0:=GH r.a r.b r.c;have i1:=GG r.a r.b r.c;have i2:=GF r.a r.b r.c;go_enter func160,ntmps160;go_wp2_with fail
 go_loopw [10] (fun iv wr=>∃(i:Nat),i<=3/\iv=.int .i64 i/\Ag wr w.heap.size (Ak (r.swapTo v o i)) 113/\Ag wr (w.heap.size+1) [.int .i64 0,.int .i64 0,.int .i64 0] 113/\Below w.heap.size w wr) (fun iv _=>3-(intOf iv).toNat)
 case atStart=>exact⟨0,by omega,rfl,hR0,hO0,hB0⟩
 case round=>
  clear hR0 hO0 hB0;obtain⟨i,hi,rfl,hR,hO,hB⟩:=hrel;have fR:=hR.frozen;have fO:=hO.frozen;have hlR:=hR.lt;have hlO:=hO.lt;by_cases hlt:i<3
  ·rcases(show i=0\/i=1\/i=2 by omega) with h0|h0|h0
   ·subst h0;rw[show((0:Nat):Int)=0 from rfl];have c0:wr.cell? ⟨w.heap.size,0,none⟩=some (.int .i64 r.a):=hR.cell 0;by_cases he:r.a=v
    ·subst he;go_wp2_with fail;refine⟨⟨1,by omega,rfl,?_,hO.setOther ⟨w.heap.size,0,none⟩ _ (by simp),hB.setCell (p:=⟨w.heap.size,0,none⟩) (Nat.le_refl _) _⟩,by simp[intOf]⟩;have h:=hR.setCell 0 (.int .i64 o);have e:(Ak (r.swapTo r.a o 0)).set 0 (.int .i64 o)=Ak (r.swapTo r.a o 1):=by simp[Ak,R3.swapTo,AO]
     rw[e]at h;exact h
    ·have hb:(r.a==v)=false:=by simpa using he
     go_wp2_with fail;refine⟨⟨1,by omega,rfl,?_,hO,hB⟩,by simp[intOf]⟩;have e:Ak (r.swapTo v o 0)=Ak (r.swapTo v o 1):=by simp[Ak,R3.swapTo,AO,he]
     rw[e]at hR;exact hR
   ·subst h0;rw[show((1:Nat):Int)=1 from rfl];have c1:wr.cell? ⟨w.heap.size,1,none⟩=some (.int .i64 r.b):=hR.cell 1;by_cases he:r.b=v
    ·subst he;go_wp2_with fail;refine⟨⟨2,by omega,rfl,?_,hO.setOther ⟨w.heap.size,1,none⟩ _ (by simp),hB.setCell (p:=⟨w.heap.size,1,none⟩) (Nat.le_refl _) _⟩,by simp[intOf]⟩;have h:=hR.setCell 1 (.int .i64 o);have e:(Ak (r.swapTo r.b o 1)).set 1 (.int .i64 o)=Ak (r.swapTo r.b o 2):=by simp[Ak,R3.swapTo,AO]
     rw[e]at h;exact h
    ·have hb:(r.b==v)=false:=by simpa using he
     go_wp2_with fail;refine⟨⟨2,by omega,rfl,?_,hO,hB⟩,by simp[intOf]⟩;have e:Ak (r.swapTo v o 1)=Ak (r.swapTo v o 2):=by simp[Ak,R3.swapTo,AO,he]
     rw[e]at hR;exact hR
   ·subst h0;rw[show((2:Nat):Int)=2 from rfl];have c2:wr.cell? ⟨w.heap.size,2,none⟩=some (.int .i64 r.c):=hR.cell 2;by_cases he:r.c=v
    ·subst he;go_wp2_with fail;refine⟨⟨3,by omega,rfl,?_,hO.setOther ⟨w.heap.size,2,none⟩ _ (by simp),hB.setCell (p:=⟨w.heap.size,2,none⟩) (Nat.le_refl _) _⟩,by simp[intOf]⟩;have h:=hR.setCell 2 (.int .i64 o);have e:(Ak (r.swapTo r.c o 2)).set 2 (.int .i64 o)=Ak (r.swapTo r.c o 3):=by simp[Ak,R3.swapTo,AO]
     rw[e]at h;exact h
    ·have hb:(r.c==v)=false:=by simpa using he
     go_wp2_with fail;refine⟨⟨3,by omega,rfl,?_,hO,hB⟩,by simp[intOf]⟩;have e:Ak (r.swapTo v o 2)=Ak (r.swapTo v o 3):=by simp[Ak,R3.swapTo,AO,he]
     rw[e]at hR;exact hR
  ·have hie:i=3:=by omega
   subst hie;rw[show((3:Nat):Int)=3 from rfl];have c0:wr.cell? ⟨w.heap.size,0,none⟩=some (.int .i64 (r.swap v o).a):=hR.cell 0;have c1:wr.cell? ⟨w.heap.size,1,none⟩=some (.int .i64 (r.swap v o).b):=hR.cell 1;have c2:wr.cell? ⟨w.heap.size,2,none⟩=some (.int .i64 (r.swap v o).c):=hR.cell 2;have o0:wr.cell? ⟨w.heap.size+1,0,none⟩=some (.int .i64 0):=hO.cell 0;have o1:wr.cell? ⟨w.heap.size+1,1,none⟩=some (.int .i64 0):=hO.cell 1;have o2:wr.cell? ⟨w.heap.size+1,2,none⟩=some (.int .i64 0):=hO.cell 2;go_wp2_with fail;refine bodyPost_ret (v:=.agg #[.int .i64 (r.swap v o).a,.int .i64 (r.swap v o).b,.int .i64 (r.swap v o).c]) (by simp[results,results160,go_sem,o0,o1,o2]) rfl ⟨rfl,?_⟩;refine Below.setCell (Below.setCell (Below.setCell hB ?_ _) ?_ _) ?_ _<;>simp
structure Bm where
 h:A4
 b0:A4
 b1:A4
 b2:A4
 b3:A4
 pos:Nat
 cnt:Nat
def Aa(r:Bm):List Value:=[.int .i64 r.h.n,.int .i64 r.h.r.a,.int .i64 r.h.r.b,.int .i64 r.h.r.c,.int .i64 r.b0.n,.int .i64 r.b0.r.a,.int .i64 r.b0.r.b,.int .i64 r.b0.r.c,.int .i64 r.b1.n,.int .i64 r.b1.r.a,.int .i64 r.b1.r.b,.int .i64 r.b1.r.c,.int .i64 r.b2.n,.int .i64 r.b2.r.a,.int .i64 r.b2.r.b,.int .i64 r.b2.r.c,.int .i64 r.b3.n,.int .i64 r.b3.r.a,.int .i64 r.b3.r.b,.int .i64 r.b3.r.c,.int .i64 (r.pos:Nat),.int .i64 (r.cnt:Nat)]
def A4.swap(x:A4)(v o:Int):A4:=⟨x.n,x.r.swap v o⟩
def Bm.swapTo(r:Bm)(v o:Int)(i:Nat):Bm:=⟨r.h.swap v o,if 0<i then r.b0.swap v o else r.b0,if 1<i then r.b1.swap v o else r.b1,if 2<i then r.b2.swap v o else r.b2,if 3<i then r.b3.swap v o else r.b3,r.pos,r.cnt⟩
def Bm.swap(r:Bm)(v o:Int):Bm:=r.swapTo v o r.cnt
theorem Fy(q:Bm):(Aa q).toArray.all (fun x=>x.oneCell')=true:=by simp[Aa,Value.oneCell']
theorem BQ:(prog.info? 118).map (fun i=>i.size)=some 22:=by kernel_rfl
theorem M2(r:Bm)(v o:Int):(((Aa r).set 1 (.int .i64 (r.h.r.swap v o).a)).set 2 (.int .i64 (r.h.r.swap v o).b)).set 3 (.int .i64 (r.h.r.swap v o).c)=Aa (r.swapTo v o 0):=by simp[Aa,Bm.swapTo,A4.swap]
theorem LO(r:Bm)(v o:Int):(((Aa (r.swapTo v o 0)).set 5 (.int .i64 (r.b0.r.swap v o).a)).set 6 (.int .i64 (r.b0.r.swap v o).b)).set 7 (.int .i64 (r.b0.r.swap v o).c)=Aa (r.swapTo v o 1):=by simp[Aa,Bm.swapTo,A4.swap]
theorem LN(r:Bm)(v o:Int):(((Aa (r.swapTo v o 1)).set 9 (.int .i64 (r.b1.r.swap v o).a)).set 10 (.int .i64 (r.b1.r.swap v o).b)).set 11 (.int .i64 (r.b1.r.swap v o).c)=Aa (r.swapTo v o 2):=by simp[Aa,Bm.swapTo,A4.swap]
theorem LM(r:Bm)(v o:Int):(((Aa (r.swapTo v o 2)).set 13 (.int .i64 (r.b2.r.swap v o).a)).set 14 (.int .i64 (r.b2.r.swap v o).b)).set 15 (.int .i64 (r.b2.r.swap v o).c)=Aa (r.swapTo v o 3):=by simp[Aa,Bm.swapTo,A4.swap]
theorem LL(r:Bm)(v o:Int):(((Aa (r.swapTo v o 3)).set 17 (.int .i64 (r.b3.r.swap v o).a)).set 18 (.int .i64 (r.b3.r.swap v o).b)).set 19 (.int .i64 (r.b3.r.swap v o).c)=Aa (r.swapTo v o 4):=by simp[Aa,Bm.swapTo,A4.swap]
theorem NC(w:World)(r:Bm)(v o:Int)(hc:r.cnt<=4)(q:Bm)(hq:r.swap v o=q):Calls prog 159 #[.agg #[.int .i64 r.h.n,.int .i64 r.h.r.a,.int .i64 r.h.r.b,.int .i64 r.h.r.c,.int .i64 r.b0.n,.int .i64 r.b0.r.a,.int .i64 r.b0.r.b,.int .i64 r.b0.r.c,.int .i64 r.b1.n,.int .i64 r.b1.r.a,.int .i64 r.b1.r.b,.int .i64 r.b1.r.c,.int .i64 r.b2.n,.int .i64 r.b2.r.a,.int .i64 r.b2.r.b,.int .i64 r.b2.r.c,.int .i64 r.b3.n,.int .i64 r.b3.r.a,.int .i64 r.b3.r.b,.int .i64 r.b3.r.c,.int .i64 (r.pos:Nat),.int .i64 (r.cnt:Nat)],.int .i64 v,.int .i64 o] w fun e w'=>e=.returned (.agg (Aa q).toArray)/\Below w.heap.size w w':=by
 have hR0:=(Ag.new w (Aa r) 118).alloc (.cells #[.int .i64 0,.int .i64 0,.int .i64 0,.int .i64 0,.int .i64 0,.int .i64 0,.int .i64 0,.int .i64 0,.int .i64 0,.int .i64 0,.int .i64 0,.int .i64 0,.int .i64 0,.int .i64 0,.int .i64 0,.int .i64 0,.int .i64 0,.int .i64 0,.int .i64 0,.int .i64 0,.int .i64 0,.int .i64 0] 118);have hO0:=Ag.new (w.alloc (.cells #[.int .i64 r.h.n,.int .i64 r.h.r.a,.int .i64 r.h.r.b,.int .i64 r.h.r.c,.int .i64 r.b0.n,.int .i64 r.b0.r.a,.int .i64 r.b0.r.b,.int .i64 r.b0.r.c,.int .i64 r.b1.n,.int .i64 r.b1.r.a,.int .i64 r.b1.r.b,.int .i64 r.b1.r.c,.int .i64 r.b2.n,.int .i64 r.b2.r.a,.int .i64 r.b2.r.b,.int .i64 r.b2.r.c,.int .i64 r.b3.n,.int .i64 r.b3.r.a,.int .i64 r.b3.r.b,.int .i64 r.b3.r.c,.int .i64 (r.pos:Nat),.int .i64 (r.cnt:Nat)] 118)) [.int .i64 0,.int .i64 0,.int .i64 0,.int .i64 0,.int .i64 0,.int .i64 0,.int .i64 0,.int .i64 0,.int .i64 0,.int .i64 0,.int .i64 0,.int .i64 0,.int .i64 0,.int .i64 0,.int .i64 0,.int .i64 0,.int .i64 0,.int .i64 0,.int .i64 0,.int .i64 0,.int .i64 0,.int .i64 0] 118;rw[show(w.alloc (.cells #[.int .i64 r.h.n,.int .i64 r.h.r.a,.int .i64 r.h.r.b,.int .i64 r.h.r.c,.int .i64 r.b0.n,.int .i64 r.b0.r.a,.int .i64 r.b0.r.b,.int .i64 r.b0.r.c,.int .i64 r.b1.n,.int .i64 r.b1.r.a,.int .i64 r.b1.r.b,.int .i64 r.b1.r.c,.int .i64 r.b2.n,.int .i64 r.b2.r.a,.int .i64 r.b2.r.b,.int .i64 r.b2.r.c,.int .i64 r.b3.n,.int .i64 r.b3.r.a,.int .i64 r.b3.r.b,.int .i64 r.b3.r.c,.int .i64 (r.pos:Nat),.int .i64 (r.cnt:Nat)] 118)).heap.size=w.heap.size+1 by simp]at hO0;have hB0:=((Below.refl w.heap.size w).alloc (Nat.le_refl _) (.cells #[.int .i64 r.h.n,.int .i64 r.h.r.a,.int .i64 r.h.r.b,.int .i64 r.h.r.c,.int .i64 r.b0.n,.int .i64 r.b0.r.a,.int .i64 r.b0.r.b,.int .i64 r.b0.r.c,.int .i64 r.b1.n,.int .i64 r.b1.r.a,.int .i64 r.b1.r.b,.int .i64 r.b1.r.c,.int .i64 r.b2.n,.int .i64 r.b2.r.a,.int .i64 r.b2.r.b,.int .i64 r.b2.r.c,.int .i64 r.b3.n,.int .i64 r.b3.r.a,.int .i64 r.b3.r.b,.int .i64 r.b3.r.c,.int .i64 (r.pos:Nat),.int .i64 (r.cnt:Nat)] 118)).alloc (by simp) (.cells #[.int .i64 0,.int .i64 0,.int .i64 0,.int .i64 0,.int .i64 0,.int .i64 0,.int .i64 0,.int .i64 0,.int .i64 0,.int .i64 0,.int .i64 0,.int .i64 0,.int .i64 0,.int .i64 0,.int .i64 0,.int .i64 0,.int .i64 0,.int .i64 0,.int .i64 0,.int .i64 0,.int .i64 0,.int .i64 0] 118);go_enter func159,ntmps159;go_wp2_with (go_at_call 160;refine(Fu _ r.h.r v o).mono ?_;rintro e w1 ⟨rfl,hB1⟩;have hR1:=hR0.below hB1;have hO1:=hO0.below hB1;have hBw1:=hB0.trans (hB1.mono hB0.size);have fR:=hR1.frozen;have hlR:=hR1.lt;have hlO:=hO1.lt;have z1:w1.cell? ⟨w.heap.size,1,none⟩=some (.int .i64 r.h.r.a):=hR1.cell 1;have z2:w1.cell? ⟨w.heap.size,2,none⟩=some (.int .i64 r.h.r.b):=hR1.cell 2;have z3:w1.cell? ⟨w.heap.size,3,none⟩=some (.int .i64 r.h.r.c):=hR1.cell 3;have z21:w1.cell? ⟨w.heap.size,21,none⟩=some (.int .i64 (r.cnt:Nat)):=hR1.cell 21)
 go_loopw [18] (fun iv wr=>∃(i:Nat),i<=r.cnt/\iv=.int .i64 i/\Ag wr w.heap.size (Aa (r.swapTo v o i)) 118/\Ag wr (w.heap.size+1) [.int .i64 0,.int .i64 0,.int .i64 0,.int .i64 0,.int .i64 0,.int .i64 0,.int .i64 0,.int .i64 0,.int .i64 0,.int .i64 0,.int .i64 0,.int .i64 0,.int .i64 0,.int .i64 0,.int .i64 0,.int .i64 0,.int .i64 0,.int .i64 0,.int .i64 0,.int .i64 0,.int .i64 0,.int .i64 0] 118/\Below w.heap.size w wr) (fun iv _=>r.cnt-(intOf iv).toNat)
 case atStart=>refine⟨0,by omega,rfl,?_,((hO1.setOther ⟨w.heap.size,1,none⟩ _ (by simp)).setOther ⟨w.heap.size,2,none⟩ _ (by simp)).setOther ⟨w.heap.size,3,none⟩ _ (by simp),((hBw1.setCell (p:=⟨w.heap.size,1,none⟩) (Nat.le_refl _) _).setCell (p:=⟨w.heap.size,2,none⟩) (Nat.le_refl _) _).setCell (p:=⟨w.heap.size,3,none⟩) (Nat.le_refl _) _⟩;have h:=((hR1.setCell 1 (.int .i64 (r.h.r.swap v o).a)).setCell 2 (.int .i64 (r.h.r.swap v o).b)).setCell 3 (.int .i64 (r.h.r.swap v o).c);rw[M2]at h;exact h
 case round=>
  clear hR0 hO0 hB0 hR1 hO1 hBw1 z1 z2 z3 z21 fR hlR hlO;obtain⟨i,hi,rfl,hR,hO,hB⟩:=hrel;have hlR:=hR.lt;have hlO:=hO.lt;have hsz:=hB.size;by_cases hlt:i<r.cnt
  ·have hlt':(i:Int)<(r.cnt:Int):=by omega
   rcases(show i=0\/i=1\/i=2\/i=3 by omega) with h0|h0|h0|h0
   ·as_aux_lemma=>
    subst h0;rw[show((0:Nat):Int)=0 from rfl]at*;have x1:wr.cell? ⟨w.heap.size,5,none⟩=some (.int .i64 r.b0.r.a):=hR.cell 5;have x2:wr.cell? ⟨w.heap.size,6,none⟩=some (.int .i64 r.b0.r.b):=hR.cell 6;have x3:wr.cell? ⟨w.heap.size,7,none⟩=some (.int .i64 r.b0.r.c):=hR.cell 7;go_wp2_with (go_at_call 160;refine(Fu _ r.b0.r v o).mono ?_;rintro e w2 ⟨rfl,hB2⟩;have hR2:=hR.below hB2;have hO2:=hO.below hB2;have fR2:=hR2.frozen;have hlR2:=hR2.lt;have y1:w2.cell? ⟨w.heap.size,5,none⟩=some (.int .i64 r.b0.r.a):=hR2.cell 5;have y2:w2.cell? ⟨w.heap.size,6,none⟩=some (.int .i64 r.b0.r.b):=hR2.cell 6;have y3:w2.cell? ⟨w.heap.size,7,none⟩=some (.int .i64 r.b0.r.c):=hR2.cell 7);refine⟨⟨1,by omega,rfl,?_,((hO2.setOther ⟨w.heap.size,5,none⟩ _ (by simp)).setOther ⟨w.heap.size,6,none⟩ _ (by simp)).setOther ⟨w.heap.size,7,none⟩ _ (by simp),(((hB.trans (hB2.mono hsz)).setCell (p:=⟨w.heap.size,5,none⟩) (Nat.le_refl _) _).setCell (p:=⟨w.heap.size,6,none⟩) (Nat.le_refl _) _).setCell (p:=⟨w.heap.size,7,none⟩) (Nat.le_refl _) _⟩,by simp[intOf];omega⟩;have h:=((hR2.setCell 5 (.int .i64 (r.b0.r.swap v o).a)).setCell 6 (.int .i64 (r.b0.r.swap v o).b)).setCell 7 (.int .i64 (r.b0.r.swap v o).c);rw[LO]at h;exact h
   ·as_aux_lemma=>
    subst h0;rw[show((1:Nat):Int)=1 from rfl]at*;have x1:wr.cell? ⟨w.heap.size,9,none⟩=some (.int .i64 r.b1.r.a):=hR.cell 9;have x2:wr.cell? ⟨w.heap.size,10,none⟩=some (.int .i64 r.b1.r.b):=hR.cell 10;have x3:wr.cell? ⟨w.heap.size,11,none⟩=some (.int .i64 r.b1.r.c):=hR.cell 11;go_wp2_with (go_at_call 160;refine(Fu _ r.b1.r v o).mono ?_;rintro e w2 ⟨rfl,hB2⟩;have hR2:=hR.below hB2;have hO2:=hO.below hB2;have fR2:=hR2.frozen;have hlR2:=hR2.lt;have y1:w2.cell? ⟨w.heap.size,9,none⟩=some (.int .i64 r.b1.r.a):=hR2.cell 9;have y2:w2.cell? ⟨w.heap.size,10,none⟩=some (.int .i64 r.b1.r.b):=hR2.cell 10;have y3:w2.cell? ⟨w.heap.size,11,none⟩=some (.int .i64 r.b1.r.c):=hR2.cell 11);refine⟨⟨2,by omega,rfl,?_,((hO2.setOther ⟨w.heap.size,9,none⟩ _ (by simp)).setOther ⟨w.heap.size,10,none⟩ _ (by simp)).setOther ⟨w.heap.size,11,none⟩ _ (by simp),(((hB.trans (hB2.mono hsz)).setCell (p:=⟨w.heap.size,9,none⟩) (Nat.le_refl _) _).setCell (p:=⟨w.heap.size,10,none⟩) (Nat.le_refl _) _).setCell (p:=⟨w.heap.size,11,none⟩) (Nat.le_refl _) _⟩,by simp[intOf];omega⟩;have h:=((hR2.setCell 9 (.int .i64 (r.b1.r.swap v o).a)).setCell 10 (.int .i64 (r.b1.r.swap v o).b)).setCell 11 (.int .i64 (r.b1.r.swap v o).c);rw[LN]at h;exact h
   ·as_aux_lemma=>
    subst h0;rw[show((2:Nat):Int)=2 from rfl]at*;have x1:wr.cell? ⟨w.heap.size,13,none⟩=some (.int .i64 r.b2.r.a):=hR.cell 13;have x2:wr.cell? ⟨w.heap.size,14,none⟩=some (.int .i64 r.b2.r.b):=hR.cell 14;have x3:wr.cell? ⟨w.heap.size,15,none⟩=some (.int .i64 r.b2.r.c):=hR.cell 15;go_wp2_with (go_at_call 160;refine(Fu _ r.b2.r v o).mono ?_;rintro e w2 ⟨rfl,hB2⟩;have hR2:=hR.below hB2;have hO2:=hO.below hB2;have fR2:=hR2.frozen;have hlR2:=hR2.lt;have y1:w2.cell? ⟨w.heap.size,13,none⟩=some (.int .i64 r.b2.r.a):=hR2.cell 13;have y2:w2.cell? ⟨w.heap.size,14,none⟩=some (.int .i64 r.b2.r.b):=hR2.cell 14;have y3:w2.cell? ⟨w.heap.size,15,none⟩=some (.int .i64 r.b2.r.c):=hR2.cell 15);refine⟨⟨3,by omega,rfl,?_,((hO2.setOther ⟨w.heap.size,13,none⟩ _ (by simp)).setOther ⟨w.heap.size,14,none⟩ _ (by simp)).setOther ⟨w.heap.size,15,none⟩ _ (by simp),(((hB.trans (hB2.mono hsz)).setCell (p:=⟨w.heap.size,13,none⟩) (Nat.le_refl _) _).setCell (p:=⟨w.heap.size,14,none⟩) (Nat.le_refl _) _).setCell (p:=⟨w.heap.size,15,none⟩) (Nat.le_refl _) _⟩,by simp[intOf];omega⟩;have h:=((hR2.setCell 13 (.int .i64 (r.b2.r.swap v o).a)).setCell 14 (.int .i64 (r.b2.r.swap v o).b)).setCell 15 (.int .i64 (r.b2.r.swap v o).c);rw[LM]at h;exact h
   ·as_aux_lemma=>
    subst h0;rw[show((3:Nat):Int)=3 from rfl]at*;have x1:wr.cell? ⟨w.heap.size,17,none⟩=some (.int .i64 r.b3.r.a):=hR.cell 17;have x2:wr.cell? ⟨w.heap.size,18,none⟩=some (.int .i64 r.b3.r.b):=hR.cell 18;have x3:wr.cell? ⟨w.heap.size,19,none⟩=some (.int .i64 r.b3.r.c):=hR.cell 19;go_wp2_with (go_at_call 160;refine(Fu _ r.b3.r v o).mono ?_;rintro e w2 ⟨rfl,hB2⟩;have hR2:=hR.below hB2;have hO2:=hO.below hB2;have fR2:=hR2.frozen;have hlR2:=hR2.lt;have y1:w2.cell? ⟨w.heap.size,17,none⟩=some (.int .i64 r.b3.r.a):=hR2.cell 17;have y2:w2.cell? ⟨w.heap.size,18,none⟩=some (.int .i64 r.b3.r.b):=hR2.cell 18;have y3:w2.cell? ⟨w.heap.size,19,none⟩=some (.int .i64 r.b3.r.c):=hR2.cell 19);refine⟨⟨4,by omega,rfl,?_,((hO2.setOther ⟨w.heap.size,17,none⟩ _ (by simp)).setOther ⟨w.heap.size,18,none⟩ _ (by simp)).setOther ⟨w.heap.size,19,none⟩ _ (by simp),(((hB.trans (hB2.mono hsz)).setCell (p:=⟨w.heap.size,17,none⟩) (Nat.le_refl _) _).setCell (p:=⟨w.heap.size,18,none⟩) (Nat.le_refl _) _).setCell (p:=⟨w.heap.size,19,none⟩) (Nat.le_refl _) _⟩,by simp[intOf];omega⟩;have h:=((hR2.setCell 17 (.int .i64 (r.b3.r.swap v o).a)).setCell 18 (.int .i64 (r.b3.r.swap v o).b)).setCell 19 (.int .i64 (r.b3.r.swap v o).c);rw[LL]at h;exact h
  ·have hie:i=r.cnt:=by omega
   subst hie;have hq':r.swapTo v o r.cnt=q:=hq;rw[hq']at hR;clear hq hq';have hcu:(prog.info? 118).map (fun i=>i.size)=some (Aa q).toArray.size:=BQ;go_wp2_with (first|(refine wpList_load_row rfl 118 (.tmp 3) rfl w.heap.size rfl 118 (Aa q).toArray (0,0) _ hR underlying118 rfl hcu ?_)|(refine wpList_store_row rfl 118 (.tmp 6) (.tmp 34) rfl (w.heap.size+1) (Aa q).toArray rfl rfl 118 _ hO hcu (by simp[Aa]) (Fy q) ?_));refine bodyPost_ret (v:=.agg (Aa q).toArray) (results_cell_row rfl _ _ (w.heap.size+1) 118 (Aa q).toArray (0,0) _ rfl (setRow_heap wr (w.heap.size+1) _ _ _ _ hO) underlying118 rfl hcu) rfl ⟨rfl,below_setRow hB (by omega) _⟩
theorem Ag.row{w:World}{g:Nat}{cs:List Value}{t:TypeId}(h:Ag w g cs t)(cs':List Value):Ag (w.setRow g cs'.toArray) g cs' t:=setRow_heap w g _ _ _ _ h
theorem Ag.rowOff{w:World}{b:Nat}{cs:List Value}{t:TypeId}(h:Ag w b cs t)(g:Nat)(c:Array Value)(hne:b≠g):Ag (w.setRow g c) b cs t:=by unfold Ag;rw[setRow_other w g b c hne];exact h
theorem GD:(prog.info? 113).map (fun i=>i.size)=some 3:=by kernel_rfl
theorem Ec{P:Program}{fn:Func}{p u:Tmp}{ty:TypeId}(h:fn.results=#[.cell p ty,.tmp u])(tmps:Array Value)(w:World)(g:Nat)(t:TypeId)(cs:Array Value)(fr:Nat×Nat)(d:TypeDesc)
 (hp:tmps.getD p undef=.pointer (some ⟨g,0,none⟩))(hg:w.heap[g]? =some (.cells cs t fr))(hu:P.underlying ty=some d)(hd:(match d with|.struct _|.array _ _=>true|_=>false)=true)(hi:(P.info? ty).map (fun i=>i.size)=some cs.size)(b:Value)(hb:tmps.getD u undef=b):
 (results fn tmps).run P w=.ok (.tuple #[.agg cs,b]) w:=by
 rw[results_cell_tmp h,hp,hb];simp[asAddr,run_loadVar_row w g t ty cs fr d hg hu hd hi,Result.andThen]
theorem OX(x y z:Int):#[Value.int .i64 x,.int .i64 y,.int .i64 z].all (fun u=>u.oneCell')=true:=by simp[Value.oneCell']
theorem KH(w:World)(a b c v o:Int):Calls prog 160 #[.agg #[.int .i64 a,.int .i64 b,.int .i64 c],.int .i64 v,.int .i64 o] w fun e w'=>e=.returned (.agg #[.int .i64 (AO v o a),.int .i64 (AO v o b),.int .i64 (AO v o c)])/\Below w.heap.size w w':=Fu w ⟨a,b,c⟩ v o
def PC:Bm:=⟨⟨0,⟨0,0,0⟩⟩,⟨0,⟨0,0,0⟩⟩,⟨0,⟨0,0,0⟩⟩,⟨0,⟨0,0,0⟩⟩,⟨0,⟨0,0,0⟩⟩,0,0⟩
structure Bl where
 r:Bm
 own:R3
 other:R3
def Bl.swap(s:Bl)(v o:Int):Bl:=⟨s.r.swap v o,s.own.swap v o,s.other.swap v o⟩
def Bl.step(s:Bl)(a b:Int):Option Bl:=
 if a<0 then(if a=b then some s else some (s.swap a b))
 else if a=b then some s
 else if b<0 then some (s.swap b a) else none
def Bl.rest:Nat->Bl->Option Bm
 |0,s=>(s.step s.own.a s.other.a).bind fun s=>(s.step s.own.b s.other.b).bind fun s=>(s.step s.own.c s.other.c).map Bl.r
 |1,s=>(s.step s.own.b s.other.b).bind fun s=>(s.step s.own.c s.other.c).map Bl.r
 |2,s=>(s.step s.own.c s.other.c).map Bl.r
 |_,s=>some s.r
def Ck(r:Bm)(own other:R3):Option Bm:=Bl.rest 0 ⟨r,own,other⟩
theorem KT(w:World)(r:Bm)(own other:R3)(hc:r.cnt<=4):Calls prog 156 #[.agg (Aa r).toArray,.agg #[.int .i64 own.a,.int .i64 own.b,.int .i64 own.c],.agg #[.int .i64 other.a,.int .i64 other.b,.int .i64 other.c]] w fun e w'=>(∃q,e=.returned (.tuple #[.agg (Aa q).toArray,.bool (Ck r own other).isSome])/\∀x,Ck r own other=some x->q=x)/\Below w.heap.size w w':=by
 have hR0:=(((Ag.new w (Aa r) 118).alloc (.cells #[.int .i64 own.a,.int .i64 own.b,.int .i64 own.c] 113)).alloc (.cells #[.int .i64 other.a,.int .i64 other.b,.int .i64 other.c] 113)).alloc (.cells #[.int .i64 0,.int .i64 0,.int .i64 0,.int .i64 0,.int .i64 0,.int .i64 0,.int .i64 0,.int .i64 0,.int .i64 0,.int .i64 0,.int .i64 0,.int .i64 0,.int .i64 0,.int .i64 0,.int .i64 0,.int .i64 0,.int .i64 0,.int .i64 0,.int .i64 0,.int .i64 0,.int .i64 0,.int .i64 0] 118);have hA0:=((Ag.new (w.alloc (.cells (Aa r).toArray 118)) (Ak own) 113).alloc (.cells #[.int .i64 other.a,.int .i64 other.b,.int .i64 other.c] 113)).alloc (.cells #[.int .i64 0,.int .i64 0,.int .i64 0,.int .i64 0,.int .i64 0,.int .i64 0,.int .i64 0,.int .i64 0,.int .i64 0,.int .i64 0,.int .i64 0,.int .i64 0,.int .i64 0,.int .i64 0,.int .i64 0,.int .i64 0,.int .i64 0,.int .i64 0,.int .i64 0,.int .i64 0,.int .i64 0,.int .i64 0] 118);have hO0:=(Ag.new ((w.alloc (.cells (Aa r).toArray 118)).alloc (.cells #[.int .i64 own.a,.int .i64 own.b,.int .i64 own.c] 113)) (Ak other) 113).alloc (.cells #[.int .i64 0,.int .i64 0,.int .i64 0,.int .i64 0,.int .i64 0,.int .i64 0,.int .i64 0,.int .i64 0,.int .i64 0,.int .i64 0,.int .i64 0,.int .i64 0,.int .i64 0,.int .i64 0,.int .i64 0,.int .i64 0,.int .i64 0,.int .i64 0,.int .i64 0,.int .i64 0,.int .i64 0,.int .i64 0] 118);have hZ0:=Ag.new (((w.alloc (.cells (Aa r).toArray 118)).alloc (.cells #[.int .i64 own.a,.int .i64 own.b,.int .i64 own.c] 113)).alloc (.cells #[.int .i64 other.a,.int .i64 other.b,.int .i64 other.c] 113)) [.int .i64 0,.int .i64 0,.int .i64 0,.int .i64 0,.int .i64 0,.int .i64 0,.int .i64 0,.int .i64 0,.int .i64 0,.int .i64 0,.int .i64 0,.int .i64 0,.int .i64 0,.int .i64 0,.int .i64 0,.int .i64 0,.int .i64 0,.int .i64 0,.int .i64 0,.int .i64 0,.int .i64 0,.int .i64 0] 118;have hB0:=((((Below.refl w.heap.size w).alloc (Nat.le_refl _) (.cells (Aa r).toArray 118)).alloc (by simp) (.cells #[.int .i64 own.a,.int .i64 own.b,.int .i64 own.c] 113)).alloc (by simp;omega) (.cells #[.int .i64 other.a,.int .i64 other.b,.int .i64 other.c] 113)).alloc (by simp;omega) (.cells #[.int .i64 0,.int .i64 0,.int .i64 0,.int .i64 0,.int .i64 0,.int .i64 0,.int .i64 0,.int .i64 0,.int .i64 0,.int .i64 0,.int .i64 0,.int .i64 0,.int .i64 0,.int .i64 0,.int .i64 0,.int .i64 0,.int .i64 0,.int .i64 0,.int .i64 0,.int .i64 0,.int .i64 0,.int .i64 0] 118);simp only[World.size_alloc]at hA0 hO0 hZ0;go_enter func156,ntmps156;go_wp2_with fail
 go_loopw [11] (fun iv wr=>∃(i:Nat) (q:Bm) (a0 a1 a2 b0 b1 b2:Int),i<=3/\iv=.int .i64 i/\q.cnt=r.cnt/\Hid (Bl.rest i ⟨q,⟨a0,a1,a2⟩,⟨b0,b1,b2⟩⟩=Ck r own other)/\Ag wr w.heap.size (Aa q) 118/\Ag wr (w.heap.size+1) [.int .i64 a0,.int .i64 a1,.int .i64 a2] 113/\Ag wr (w.heap.size+1+1) [.int .i64 b0,.int .i64 b1,.int .i64 b2] 113/\Ag wr (w.heap.size+1+1+1) [.int .i64 0,.int .i64 0,.int .i64 0,.int .i64 0,.int .i64 0,.int .i64 0,.int .i64 0,.int .i64 0,.int .i64 0,.int .i64 0,.int .i64 0,.int .i64 0,.int .i64 0,.int .i64 0,.int .i64 0,.int .i64 0,.int .i64 0,.int .i64 0,.int .i64 0,.int .i64 0,.int .i64 0,.int .i64 0] 118/\Below w.heap.size w wr) (fun iv _=>3-(intOf iv).toNat)
 case atStart=>exact⟨0,r,own.a,own.b,own.c,other.a,other.b,other.c,by omega,rfl,rfl,rfl,hR0,hA0,hO0,hZ0,hB0⟩
 case round=>
  clear hR0 hA0 hO0 hZ0 hB0;obtain⟨i,q,a0,a1,a2,b0,b1,b2,hi,rfl,hcn,HX,hR,hA,hO,hZ,hB⟩:=hrel;have hsz:=hB.size;by_cases hlt:i<3
  ·obtain⟨x,y,x0,y0,HY⟩:∃x y,wr.cell? ⟨w.heap.size+1,i,none⟩=some (.int .i64 x)/\wr.cell? ⟨w.heap.size+1+1,i,none⟩=some (.int .i64 y)/\Hid (((Bl.mk q ⟨a0,a1,a2⟩ ⟨b0,b1,b2⟩).step x y).bind (Bl.rest (i+1))=Ck r own other):=by
    rcases(show i=0\/i=1\/i=2 by omega) with rfl|rfl|rfl
    ·exact⟨_,_,hA.cell 0,hO.cell 0,HX⟩
    ·exact⟨_,_,hA.cell 1,hO.cell 1,HX⟩
    ·exact⟨_,_,hA.cell 2,hO.cell 2,AJ (by rw[<-HX.out];simp only[Bl.rest];cases Bl.step _ a2 b2<;>rfl)⟩
   clear HX;generalize hn:i+1=n at HY;rcases(show i=0\/i=1\/i=2 by omega) with h0|h0|h0<;>subst h0
   all_goals
    first|rw[show((0:Nat):Int)=0 from rfl]at*|rw[show((1:Nat):Int)=1 from rfl]at*|rw[show((2:Nat):Int)=2 from rfl]at*
    by_cases he:x=y
    ·have HN:=AJ (show Bl.rest n ⟨q,⟨a0,a1,a2⟩,⟨b0,b1,b2⟩⟩=Ck r own other by rw[<-HY.out];simp[Bl.step,he]);clear HY;subst he;cases hda:decide (x<0)
     all_goals
      go_wp2_with fail;go_region;go_wp2_with (go_at_call 153;refine(Cg _ _).mono ?_;rintro e w9 ⟨rfl,hw9⟩;subst w9)
      all_goals exact⟨⟨n,q,_,_,_,_,_,_,by omega,by subst hn;rfl,hcn,HN,hR.drew,hA.drew,hO.drew,hZ.drew,hB.drew⟩,by simp[intOf]⟩
    ·have he':¬y=x:=fun h=>he h.symm;by_cases hb:x<0\/y<0
     ·by_cases ha:x<0
      case' pos=>
          have HN:=AJ (show Bl.rest n ((Bl.mk q ⟨a0,a1,a2⟩ ⟨b0,b1,b2⟩).swap x y)=Ck r own other by rw[<-HY.out];simp[Bl.step,ha,he]);have hda:decide (x<0)=true:=by simp[ha]
          obtain⟨u,rfl⟩:∃u,u=x:=⟨_,rfl⟩;obtain⟨v,rfl⟩:∃v,v=y:=⟨_,rfl⟩
      case' neg=>
          have hb:=hb.resolve_left ha;have HN:=AJ (show Bl.rest n ((Bl.mk q ⟨a0,a1,a2⟩ ⟨b0,b1,b2⟩).swap y x)=Ck r own other by rw[<-HY.out];simp[Bl.step,ha,he,hb]);have hda:decide (x<0)=false:=by simp[ha]
          have hdb:decide (y<0)=true:=by simp[hb]
          obtain⟨u,rfl⟩:∃u,u=y:=⟨_,rfl⟩;obtain⟨v,rfl⟩:∃v,v=x:=⟨_,rfl⟩
      all_goals
          clear HY;go_wp2_with fail;go_region;go_upto_region 11 with(first|(go_at_call 153;refine(Cg _ _).mono ?_;rintro e w9 ⟨rfl,hw9⟩;subst w9)|(refine wpList_load_row rfl 118 (.tmp 3) rfl w.heap.size rfl 118 (Aa q).toArray (0,0) _ hR.drew underlying118 rfl BQ ?_)|(go_at_call 159;refine(NC _ q u v (by omega) _ rfl).mono ?_;rintro e w2 ⟨rfl,hB2⟩;have hR2:=hR.drew.below hB2;have hA2:=hA.drew.below hB2;have hO2:=hO.drew.below hB2;have hZ2:=hZ.drew.below hB2;have hBw2:=hB.drew.trans (hB2.mono hsz))|(refine wpList_store_row rfl 118 (.tmp 3) (.tmp 35) rfl w.heap.size (Aa (q.swap u v)).toArray rfl rfl 118 _ hR2 BQ (by simp[Aa]) (Fy _) ?_))
          have hR3:=hR2.row (Aa (q.swap u v));have hA3:=hA2.rowOff w.heap.size (Aa (q.swap u v)).toArray (by omega);have hO3:=hO2.rowOff w.heap.size (Aa (q.swap u v)).toArray (by omega);have hZ3:=hZ2.rowOff w.heap.size (Aa (q.swap u v)).toArray (by omega);have hB3:=below_setRow hBw2 (Nat.le_refl _) (Aa (q.swap u v)).toArray;generalize w2.setRow w.heap.size (Aa (q.swap u v)).toArray=w3 at*;go_upto_region 12 with(first|(refine wpList_load_row rfl 113 (.tmp 4) rfl (w.heap.size+1) rfl 113 #[.int .i64 a0,.int .i64 a1,.int .i64 a2] (0,0) _ hA3 underlying113 rfl GD ?_)|(go_at_call 160;refine(KH _ a0 a1 a2 u v).mono ?_;rintro e w4 ⟨rfl,hB4⟩;have hR4:=hR3.below hB4;have hA4:=hA3.below hB4;have hO4:=hO3.below hB4;have hZ4:=hZ3.below hB4;have hBw4:=hB3.trans (hB4.mono hB3.size))|(refine wpList_store_row rfl 113 (.tmp 4) (.tmp 39) rfl (w.heap.size+1) #[.int .i64 (AO u v a0),.int .i64 (AO u v a1),.int .i64 (AO u v a2)] rfl rfl 113 _ hA4 GD rfl (OX _ _ _) ?_))
          have hA5:=hA4.row [.int .i64 (AO u v a0),.int .i64 (AO u v a1),.int .i64 (AO u v a2)];have hR5:=hR4.rowOff (w.heap.size+1) #[.int .i64 (AO u v a0),.int .i64 (AO u v a1),.int .i64 (AO u v a2)] (by omega);have hO5:=hO4.rowOff (w.heap.size+1) #[.int .i64 (AO u v a0),.int .i64 (AO u v a1),.int .i64 (AO u v a2)] (by omega);have hZ5:=hZ4.rowOff (w.heap.size+1) #[.int .i64 (AO u v a0),.int .i64 (AO u v a1),.int .i64 (AO u v a2)] (by omega);have hB5:=below_setRow hBw4 (show w.heap.size<=w.heap.size+1 by omega) #[.int .i64 (AO u v a0),.int .i64 (AO u v a1),.int .i64 (AO u v a2)];generalize w4.setRow (w.heap.size+1) #[.int .i64 (AO u v a0),.int .i64 (AO u v a1),.int .i64 (AO u v a2)]=w5 at*;go_wp2_with (first|(refine wpList_load_row rfl 113 (.tmp 5) rfl (w.heap.size+1+1) rfl 113 #[.int .i64 b0,.int .i64 b1,.int .i64 b2] (0,0) _ hO5 underlying113 rfl GD ?_)|(go_at_call 160;refine(KH _ b0 b1 b2 u v).mono ?_;rintro e w6 ⟨rfl,hB6⟩;have hR6:=hR5.below hB6;have hA6:=hA5.below hB6;have hO6:=hO5.below hB6;have hZ6:=hZ5.below hB6;have hBw6:=hB5.trans (hB6.mono hB5.size))|(refine wpList_store_row rfl 113 (.tmp 5) (.tmp 43) rfl (w.heap.size+1+1) #[.int .i64 (AO u v b0),.int .i64 (AO u v b1),.int .i64 (AO u v b2)] rfl rfl 113 _ hO6 GD rfl (OX _ _ _) ?_));exact⟨⟨n,q.swap u v,AO u v a0,AO u v a1,AO u v a2,AO u v b0,AO u v b1,AO u v b2,by omega,by subst hn;rfl,hcn,HN,hR6.rowOff (w.heap.size+1+1) _ (by omega),hA6.rowOff (w.heap.size+1+1) _ (by omega),hO6.row [.int .i64 (AO u v b0),.int .i64 (AO u v b1),.int .i64 (AO u v b2)],hZ6.rowOff (w.heap.size+1+1) _ (by omega),below_setRow hBw6 (by omega) _⟩,by simp[intOf]⟩
     ·have ha:¬x<0:=fun h=>hb (.inl h);have hb:¬y<0:=fun h=>hb (.inr h);have HN:=AJ (show Ck r own other=none by rw[<-HY.out];simp[Bl.step,ha,he,hb]);have hda:decide (x<0)=false:=by simp[ha]
      have hdb:decide (y<0)=false:=by simp[hb]
      clear HY;go_wp2_with fail;go_region;go_wp2_with (first|(go_at_call 153;refine(Cg _ _).mono ?_;rintro e w9 ⟨rfl,hw9⟩;subst w9)|(refine wpList_store_row rfl 118 (.tmp 6) (.tmp 31) rfl (w.heap.size+1+1+1) (Aa PC).toArray rfl rfl 118 _ hZ.drew BQ (by simp[Aa]) (Fy _) ?_));refine bodyPost_ret (v:=.tuple #[.agg (Aa PC).toArray,.bool false]) (Ec rfl _ _ (w.heap.size+1+1+1) 118 (Aa PC).toArray (0,0) _ rfl (setRow_heap _ (w.heap.size+1+1+1) _ _ _ _ hZ.drew) underlying118 rfl BQ (.bool false) rfl) rfl ⟨⟨PC,by rw[HN.out];rfl,fun x hx=>by rw[HN.out]at hx;cases hx⟩,below_setRow hB.drew (by omega) _⟩
  ·have hie:i=3:=by omega
   subst hie;rw[show((3:Nat):Int)=3 from rfl]at*;have HN:=AJ (show Ck r own other=some q from HX.out.symm);clear HX;go_wp2_with (first|(refine wpList_load_row rfl 118 (.tmp 3) rfl w.heap.size rfl 118 (Aa q).toArray (0,0) _ hR underlying118 rfl BQ ?_)|(refine wpList_store_row rfl 118 (.tmp 6) _ rfl (w.heap.size+1+1+1) (Aa q).toArray rfl rfl 118 _ hZ BQ (by simp[Aa]) (Fy _) ?_));refine bodyPost_ret (v:=.tuple #[.agg (Aa q).toArray,.bool true]) (Ec rfl _ _ (w.heap.size+1+1+1) 118 (Aa q).toArray (0,0) _ rfl (setRow_heap _ (w.heap.size+1+1+1) _ _ _ _ hZ) underlying118 rfl BQ (.bool true) rfl) rfl ⟨⟨q,by rw[HN.out];rfl,fun x hx=>by rw[HN.out]at hx;exact Option.some.inj hx⟩,below_setRow hB (by omega) _⟩
def R3.first(r:R3)(v:Int):Int:=if v=r.a then 0 else if v=r.b then 1 else if v=r.c then 2 else-1
def R3.kindT(r:R3)(t:Int):Int:=if t<0 then-1-r.first t else t
def R3.kind(r:R3):R3:=⟨r.kindT r.a,r.kindT r.b,r.kindT r.c⟩
theorem Gj(w:World)(g:Nat)(r:R3)(hG:Ag w g (Ak r) 113)(v:Int):Calls prog 154 #[.slice (some ⟨g,0,none⟩) 3 3,.int .i64 v] w fun e w'=>e=.returned (.int .i64 (r.first v))/\w'=w:=by
 have c0:w.cell? ⟨g,0,none⟩=some (.int .i64 r.a):=hG.cell 0;have c1:w.cell? ⟨g,1,none⟩=some (.int .i64 r.b):=hG.cell 1;have c2:w.cell? ⟨g,2,none⟩=some (.int .i64 r.c):=hG.cell 2;go_enter func154,ntmps154;go_wp2_with fail
 go_loopw [8] (fun iv wr=>∃(i:Nat),i<=3/\iv=.int .i64 i/\Hid ((0<i->v≠r.a)/\(1<i->v≠r.b)/\(2<i->v≠r.c))/\wr=w) (fun iv _=>3-(intOf iv).toNat)
 case atStart=>exact⟨0,by omega,rfl,⟨fun h=>by omega,fun h=>by omega,fun h=>by omega⟩,rfl⟩
 case round=>
  obtain⟨i,hi,rfl,HX,hw⟩:=hrel;subst wr;by_cases hlt:i<3
  ·rcases(show i=0\/i=1\/i=2 by omega) with h0|h0|h0
   ·subst h0;rw[show((0:Nat):Int)=0 from rfl]at*;by_cases he:v=r.a
    ·have HE:=AJ (show r.first v=0 by unfold R3.first;rw[if_pos he]);have hb:(v==r.a)=true:=by simpa using he
     clear he HX;go_wp2_with fail
     go_ret
     rw[HE.out];exact⟨rfl,rfl⟩
    ·have hb:(v==r.a)=false:=by simpa using he
     have HN:Hid ((0<1->v≠r.a)/\(1<1->v≠r.b)/\(2<1->v≠r.c)):=⟨fun _=>he,fun h=>by omega,fun h=>by omega⟩;clear he HX;go_wp2_with fail;exact⟨⟨1,by omega,rfl,HN,trivial⟩,by simp[intOf]⟩
   ·subst h0;rw[show((1:Nat):Int)=1 from rfl]at*;by_cases he:v=r.b
    ·have HE:=AJ (show r.first v=1 by unfold R3.first;rw[if_neg (HX.out.1 (by omega)),if_pos he]);have hb:(v==r.b)=true:=by simpa using he
     clear he HX;go_wp2_with fail
     go_ret
     rw[HE.out];exact⟨rfl,rfl⟩
    ·have hb:(v==r.b)=false:=by simpa using he
     have HN:Hid ((0<2->v≠r.a)/\(1<2->v≠r.b)/\(2<2->v≠r.c)):=⟨fun _=>HX.out.1 (by omega),fun _=>he,fun h=>by omega⟩;clear he HX;go_wp2_with fail;exact⟨⟨2,by omega,rfl,HN,trivial⟩,by simp[intOf]⟩
   ·subst h0;rw[show((2:Nat):Int)=2 from rfl]at*;by_cases he:v=r.c
    ·have HE:=AJ (show r.first v=2 by unfold R3.first;rw[if_neg (HX.out.1 (by omega)),if_neg (HX.out.2.1 (by omega)),if_pos he]);have hb:(v==r.c)=true:=by simpa using he
     clear he HX;go_wp2_with fail
     go_ret
     rw[HE.out];exact⟨rfl,rfl⟩
    ·have hb:(v==r.c)=false:=by simpa using he
     have HN:Hid ((0<3->v≠r.a)/\(1<3->v≠r.b)/\(2<3->v≠r.c)):=⟨fun _=>HX.out.1 (by omega),fun _=>HX.out.2.1 (by omega),fun _=>he⟩;clear he HX;go_wp2_with fail;exact⟨⟨3,by omega,rfl,HN,trivial⟩,by simp[intOf]⟩
  ·have hie:i=3:=by omega
   subst hie;rw[show((3:Nat):Int)=3 from rfl]at*;have HE:=AJ (show r.first v= -1 by unfold R3.first;rw[if_neg (HX.out.1 (by omega)),if_neg (HX.out.2.1 (by omega)),if_neg (HX.out.2.2 (by omega))]);clear HX;go_wp2_with fail
   go_ret
   rw[HE.out];exact⟨rfl,rfl⟩
theorem R3.first_le(r:R3)(v:Int): -1<=r.first v/\r.first v<=2:=by
 unfold R3.first
 split
 ·omega
 ·split
  ·omega
  ·split<;>omega
def R3.kindTo(r:R3)(i:Nat):R3:=⟨if 0<i then r.kindT r.a else r.a,if 1<i then r.kindT r.b else r.b,if 2<i then r.kindT r.c else r.c⟩
theorem R3.kindTo_set0(r:R3)(h:r.a<0):(Ak (r.kindTo 0)).set 0 (.int .i64 (-1-r.first r.a))=Ak (r.kindTo 1):=by simp[Ak,R3.kindTo,R3.kindT,h]
theorem R3.kindTo_same0(r:R3)(h:¬r.a<0):Ak (r.kindTo 0)=Ak (r.kindTo 1):=by simp[Ak,R3.kindTo,R3.kindT,h]
theorem R3.kindTo_set1(r:R3)(h:r.b<0):(Ak (r.kindTo 1)).set 1 (.int .i64 (-1-r.first r.b))=Ak (r.kindTo 2):=by simp[Ak,R3.kindTo,R3.kindT,h]
theorem R3.kindTo_same1(r:R3)(h:¬r.b<0):Ak (r.kindTo 1)=Ak (r.kindTo 2):=by simp[Ak,R3.kindTo,R3.kindT,h]
theorem R3.kindTo_set2(r:R3)(h:r.c<0):(Ak (r.kindTo 2)).set 2 (.int .i64 (-1-r.first r.c))=Ak (r.kindTo 3):=by simp[Ak,R3.kindTo,R3.kindT,h]
theorem R3.kindTo_same2(r:R3)(h:¬r.c<0):Ak (r.kindTo 2)=Ak (r.kindTo 3):=by simp[Ak,R3.kindTo,R3.kindT,h]
theorem O3(w:World)(r:R3):Calls prog 142 #[.agg #[.int .i64 r.a,.int .i64 r.b,.int .i64 r.c]] w fun e w'=>e=.returned (.agg #[.int .i64 r.kind.a,.int .i64 r.kind.b,.int .i64 r.kind.c])/\Below w.heap.size w w':=by
 have i0:=GH r.a r.b r.c;have i1:=GG r.a r.b r.c;have i2:=GF r.a r.b r.c;have hR0:=((Ag.new w (Ak r) 113).alloc (.cells #[.int .i64 0,.int .i64 0,.int .i64 0] 113)).alloc (.cells #[.int .i64 r.a,.int .i64 r.b,.int .i64 r.c] 113);have hO0:=(Ag.new (w.alloc (.cells #[.int .i64 r.a,.int .i64 r.b,.int .i64 r.c] 113)) [.int .i64 0,.int .i64 0,.int .i64 0] 113).alloc (.cells #[.int .i64 r.a,.int .i64 r.b,.int .i64 r.c] 113);have hK0:=Ag.new ((w.alloc (.cells #[.int .i64 r.a,.int .i64 r.b,.int .i64 r.c] 113)).alloc (.cells #[.int .i64 0,.int .i64 0,.int .i64 0] 113)) (Ak (r.kindTo 0)) 113;have hB0:=(((Below.refl w.heap.size w).alloc (Nat.le_refl _) (.cells #[.int .i64 r.a,.int .i64 r.b,.int .i64 r.c] 113)).alloc (by simp) (.cells #[.int .i64 0,.int .i64 0,.int .i64 0] 113)).alloc (by simp;omega) (.cells #[.int .i64 r.a,.int .i64 r.b,.int .i64 r.c] 113);simp only[World.size_alloc]at hO0 hK0;go_enter func142,ntmps142;go_wp2_with fail
 go_loopw [8] (fun iv wr=>∃(i:Nat),i<=3/\iv=.int .i64 i/\Ag wr w.heap.size (Ak r) 113/\Ag wr (w.heap.size+1) [.int .i64 0,.int .i64 0,.int .i64 0] 113/\Ag wr (w.heap.size+1+1) (Ak (r.kindTo i)) 113/\Below w.heap.size w wr) (fun iv _=>3-(intOf iv).toNat)
 case atStart=>exact⟨0,by omega,rfl,hR0,hO0,hK0,hB0⟩
 case round=>
  clear hR0 hO0 hK0 hB0;obtain⟨i,hi,rfl,hR,hO,hK,hB⟩:=hrel;have fK:=hK.frozen;have hlR:=hR.lt;have hlO:=hO.lt;have hlK:=hK.lt;by_cases hlt:i<3
  ·rcases(show i=0\/i=1\/i=2 by omega) with h0|h0|h0
   ·subst h0;rw[show((0:Nat):Int)=0 from rfl]at*;have z0:wr.cell? ⟨w.heap.size+1+1,0,none⟩=some (.int .i64 r.a):=hK.cell 0;by_cases hv:r.a<0
    ·have hdv:decide (r.a<0)=true:=by simp[hv]
     have hfb:=r.first_le r.a;have HS:=AJ (Gj wr w.heap.size r hR r.a);have HK:=AJ (r.kindTo_set0 hv);generalize hfe:r.first r.a=fx at*;clear hfe;go_wp2_with (first|(go_at_call 153;refine(Cg _ _).mono ?_;rintro e w9 ⟨rfl,hw9⟩;subst w9)|(go_at_call 154;refine(HS.out).mono ?_;rintro e w9 ⟨rfl,hw9⟩;subst w9));have h:=hK.setCell 0 (.int .i64 (-1-fx));rw[HK.out]at h;exact⟨⟨1,by omega,rfl,hR.setOther ⟨w.heap.size+1+1,0,none⟩ _ (by simp;omega),hO.setOther ⟨w.heap.size+1+1,0,none⟩ _ (by simp),h,hB.setCell (p:=⟨w.heap.size+1+1,0,none⟩) (by simp;omega) _⟩,by simp[intOf]⟩
    ·have hdv:decide (r.a<0)=false:=by simp[hv]
     have HK:=AJ (r.kindTo_same0 hv);go_wp2_with (go_at_call 153;refine(Cg _ _).mono ?_;rintro e w9 ⟨rfl,hw9⟩;subst w9);rw[HK.out]at hK;exact⟨⟨1,by omega,rfl,hR,hO,hK,hB⟩,by simp[intOf]⟩
   ·subst h0;rw[show((1:Nat):Int)=1 from rfl]at*;have z0:wr.cell? ⟨w.heap.size+1+1,1,none⟩=some (.int .i64 r.b):=hK.cell 1;by_cases hv:r.b<0
    ·have hdv:decide (r.b<0)=true:=by simp[hv]
     have hfb:=r.first_le r.b;have HS:=AJ (Gj wr w.heap.size r hR r.b);have HK:=AJ (r.kindTo_set1 hv);generalize hfe:r.first r.b=fx at*;clear hfe;go_wp2_with (first|(go_at_call 153;refine(Cg _ _).mono ?_;rintro e w9 ⟨rfl,hw9⟩;subst w9)|(go_at_call 154;refine(HS.out).mono ?_;rintro e w9 ⟨rfl,hw9⟩;subst w9));have h:=hK.setCell 1 (.int .i64 (-1-fx));rw[HK.out]at h;exact⟨⟨2,by omega,rfl,hR.setOther ⟨w.heap.size+1+1,1,none⟩ _ (by simp;omega),hO.setOther ⟨w.heap.size+1+1,1,none⟩ _ (by simp),h,hB.setCell (p:=⟨w.heap.size+1+1,1,none⟩) (by simp;omega) _⟩,by simp[intOf]⟩
    ·have hdv:decide (r.b<0)=false:=by simp[hv]
     have HK:=AJ (r.kindTo_same1 hv);go_wp2_with (go_at_call 153;refine(Cg _ _).mono ?_;rintro e w9 ⟨rfl,hw9⟩;subst w9);rw[HK.out]at hK;exact⟨⟨2,by omega,rfl,hR,hO,hK,hB⟩,by simp[intOf]⟩
   ·subst h0;rw[show((2:Nat):Int)=2 from rfl]at*;have z0:wr.cell? ⟨w.heap.size+1+1,2,none⟩=some (.int .i64 r.c):=hK.cell 2;by_cases hv:r.c<0
    ·have hdv:decide (r.c<0)=true:=by simp[hv]
     have hfb:=r.first_le r.c;have HS:=AJ (Gj wr w.heap.size r hR r.c);have HK:=AJ (r.kindTo_set2 hv);generalize hfe:r.first r.c=fx at*;clear hfe;go_wp2_with (first|(go_at_call 153;refine(Cg _ _).mono ?_;rintro e w9 ⟨rfl,hw9⟩;subst w9)|(go_at_call 154;refine(HS.out).mono ?_;rintro e w9 ⟨rfl,hw9⟩;subst w9));have h:=hK.setCell 2 (.int .i64 (-1-fx));rw[HK.out]at h;exact⟨⟨3,by omega,rfl,hR.setOther ⟨w.heap.size+1+1,2,none⟩ _ (by simp;omega),hO.setOther ⟨w.heap.size+1+1,2,none⟩ _ (by simp),h,hB.setCell (p:=⟨w.heap.size+1+1,2,none⟩) (by simp;omega) _⟩,by simp[intOf]⟩
    ·have hdv:decide (r.c<0)=false:=by simp[hv]
     have HK:=AJ (r.kindTo_same2 hv);go_wp2_with (go_at_call 153;refine(Cg _ _).mono ?_;rintro e w9 ⟨rfl,hw9⟩;subst w9);rw[HK.out]at hK;exact⟨⟨3,by omega,rfl,hR,hO,hK,hB⟩,by simp[intOf]⟩
  ·have hie:i=3:=by omega
   subst hie;rw[show((3:Nat):Int)=3 from rfl]at*;have hK':Ag wr (w.heap.size+1+1) [.int .i64 r.kind.a,.int .i64 r.kind.b,.int .i64 r.kind.c] 113:=hK;go_wp2_with (first|(refine wpList_load_row rfl 113 (.tmp 3) rfl (w.heap.size+1+1) rfl 113 #[.int .i64 r.kind.a,.int .i64 r.kind.b,.int .i64 r.kind.c] (0,0) _ hK' underlying113 rfl GD ?_)|(refine wpList_store_row rfl 113 (.tmp 2) _ rfl (w.heap.size+1) #[.int .i64 r.kind.a,.int .i64 r.kind.b,.int .i64 r.kind.c] rfl rfl 113 _ hO GD rfl (OX _ _ _) ?_));refine bodyPost_ret (v:=.agg #[.int .i64 r.kind.a,.int .i64 r.kind.b,.int .i64 r.kind.c]) (results_cell_row rfl _ _ (w.heap.size+1) 113 _ (0,0) _ rfl (setRow_heap _ (w.heap.size+1) _ _ _ _ hO) underlying113 rfl GD) rfl ⟨rfl,below_setRow hB (by omega) _⟩
end
section
def R3.map(f:Int->Int)(r:R3):R3:=⟨f r.a,f r.b,f r.c⟩
def A4.map(f:Int->Int)(x:A4):A4:=⟨x.n,x.r.map f⟩
def Bm.map(f:Int->Int)(r:Bm):Bm:=⟨r.h.map f,r.b0.map f,r.b1.map f,r.b2.map f,r.b3.map f,r.pos,r.cnt⟩
def Bm.b(r:Bm):Nat->A4
 |0=>r.b0
 |1=>r.b1
 |2=>r.b2
 |_=>r.b3
theorem Bm.map_b(f:Int->Int)(r:Bm)(i:Nat):(r.map f).b i=(r.b i).map f:=by
 match i with
 |0=>rfl
 |1=>rfl
 |2=>rfl
 |_+3=>rfl
def R3.Has(r:R3)(t:Int):Prop:=t=r.a\/t=r.b\/t=r.c
theorem R3.map_has{f:Int->Int}{r:R3}{t:Int}:(r.map f).Has t↔ ∃y,r.Has y/\f y=t:=by
 unfold R3.Has R3.map;constructor
 ·rintro(h|h|h)
  ·exact⟨r.a,.inl rfl,h.symm⟩
  ·exact⟨r.b,.inr (.inl rfl),h.symm⟩
  ·exact⟨r.c,.inr (.inr rfl),h.symm⟩
 ·rintro⟨y,rfl|rfl|rfl,rfl⟩
  ·exact .inl rfl
  ·exact .inr (.inl rfl)
  ·exact .inr (.inr rfl)
theorem R3.map_map(f g:Int->Int)(r:R3):(r.map f).map g=r.map (fun x=>g (f x)):=rfl
theorem R3.map_congr{f g:Int->Int}{r:R3}(h:∀t,r.Has t->f t=g t):r.map f=r.map g:=by unfold R3.map;rw[h r.a (.inl rfl),h r.b (.inr (.inl rfl)),h r.c (.inr (.inr rfl))]
def R3.Ground(r:R3):Prop:=∀t,r.Has t->0<=t
def G0(f:Int->Int):Prop:=∀c,0<=c->f c=c
structure JK(f:Int->Int):Prop where
 fix:G0 f
 up:∀v,0<=f v
theorem R3.map_ground{f:Int->Int}(hf:G0 f){r:R3}(h:r.Ground):r.map f=r:=by have h2:r.map f=r.map id:=R3.map_congr fun t ht=>hf t (h t ht);rw[h2];rfl
theorem JK.ground{f:Int->Int}(hf:JK f)(r:R3):(r.map f).Ground:=by intro t ht;obtain⟨y,_,rfl⟩:=R3.map_has.1 ht;exact hf.up y
def G4:A4:=⟨0,⟨0,0,0⟩⟩
structure Bm.Wf(r:Bm):Prop where
 cnt:r.cnt<=4
 pos:r.pos<=r.cnt
 z0:r.cnt<=0->r.b0=G4
 z1:r.cnt<=1->r.b1=G4
 z2:r.cnt<=2->r.b2=G4
 z3:r.cnt<=3->r.b3=G4
theorem E7{f:Int->Int}(hf:G0 f):G4.map f=G4:=by unfold A4.map G4 R3.map;simp[hf 0 (Int.le_refl _)]
theorem Bm.Wf.map{r:Bm}(h:r.Wf){f:Int->Int}(hf:G0 f):(r.map f).Wf:=
 ⟨h.cnt,h.pos,fun e=>by show r.b0.map f=_;rw[h.z0 e,E7 hf],fun e=>by show r.b1.map f=_;rw[h.z1 e,E7 hf],fun e=>by show r.b2.map f=_;rw[h.z2 e,E7 hf],fun e=>by show r.b3.map f=_;rw[h.z3 e,E7 hf]⟩
theorem Hf{v o:Int}(hv:v<0):G0 (AO v o):=by intro c hc;unfold AO;rw[if_neg (by omega)]
theorem Pc(r:R3)(v o:Int):r.swap v o=r.map (AO v o):=rfl
theorem LS(r:A4)(v o:Int):r.swap v o=r.map (AO v o):=rfl
theorem Bm.swap_map{r:Bm}(h:r.Wf){v:Int}(hv:v<0)(o:Int):r.swap v o=r.map (AO v o):=by
 have z:=fun(x:A4) (e:x=G4)=>(show x.map (AO v o)=x by rw[e,E7 (Hf hv)]);have h0:=h.z0;have h1:=h.z1;have h2:=h.z2;have h3:=h.z3;unfold Bm.swap Bm.swapTo Bm.map;simp only[LS];congr 1
 ·split
  ·rfl
  ·exact(z _ (h0 (by omega))).symm
 ·split
  ·rfl
  ·exact(z _ (h1 (by omega))).symm
 ·split
  ·rfl
  ·exact(z _ (h2 (by omega))).symm
 ·split
  ·rfl
  ·exact(z _ (h3 (by omega))).symm
def Bl.map(f:Int->Int)(s:Bl):Bl:=⟨s.r.map f,s.own.map f,s.other.map f⟩
structure PA(a b:Int)(f:Int->Int):Prop where
 fix:G0 f
 same:f a=f b
 back:∀σ:Int->Int,σ a=σ b->∀x,σ (f x)=σ x
 keep:∀P:Int->Prop,P a->P b->∀x,P x->P (f x)
theorem Hj{a b:Int}(ha:a<0):PA a b (AO a b):=by
 refine⟨Hf ha,?_,?_,?_⟩
 ·unfold AO;rw[if_pos rfl]
  split<;>rfl
 ·intro σ h x;unfold AO
  split
  ·rename_i e;rw[e,h]
  ·rfl
 ·intro P _ hb x hx;unfold AO
  split
  ·exact hb
  ·exact hx
theorem Bl.step_some{s s':Bl}{a b:Int}(hw:s.r.Wf)(h:s.step a b=some s'):∃f,PA a b f/\s'=s.map f:=by
 unfold Bl.step at h
 split at h
 ·rename_i ha
  split at h
  ·rename_i e
   injection h with h
   exact⟨id,⟨fun _ _=>rfl,by rw[e],fun _ _ _=>rfl,fun _ _ _ _ h=>h⟩,h.symm⟩
  ·injection h with h
   refine⟨AO a b,Hj ha,?_⟩;rw[<-h];unfold Bl.swap Bl.map;rw[Bm.swap_map hw ha];rfl
 ·rename_i ha
  split at h
  ·rename_i e
   injection h with h
   exact⟨id,⟨fun _ _=>rfl,by rw[e],fun _ _ _=>rfl,fun _ _ _ _ h=>h⟩,h.symm⟩
  ·split at h
   ·rename_i hb
    injection h with h
    have p:=Hj (a:=b) (b:=a) hb;refine⟨AO b a,⟨p.fix,p.same.symm,fun σ e=>p.back σ e.symm,fun P h1 h2=>p.keep P h2 h1⟩,?_⟩;rw[<-h];unfold Bl.swap Bl.map;rw[Bm.swap_map hw hb];rfl
   ·cases h
theorem Bl.step_none{s:Bl}{a b:Int}(h:s.step a b=none){σ:Int->Int}(hσ:G0 σ):σ a≠σ b:=by
 unfold Bl.step at h
 split at h
 ·split at h<;>cases h
 ·split at h
  ·cases h
  ·split at h
   ·cases h
   ·rw[hσ a (by omega),hσ b (by omega)];assumption
structure PO(r:Bm)(own other:R3)(q:Bm)(f:Int->Int):Prop where
 fix:G0 f
 is:q=r.map f
 same:own.map f=other.map f
 back:∀σ:Int->Int,own.map σ=other.map σ->∀x,σ (f x)=σ x
 keep:∀P:Int->Prop,(∀t,own.Has t->P t)->(∀t,other.Has t->P t)->∀x,P x->P (f x)
theorem Er{r q:Bm}{own other:R3}(hw:r.Wf)(h:Ck r own other=some q):∃f,PO r own other q f:=by
 unfold Ck Bl.rest at h;obtain⟨s1,h1,h⟩:=Option.bind_eq_some_iff.1 h;obtain⟨f1,p1,rfl⟩:=Bl.step_some hw h1;obtain⟨s2,h2,h⟩:=Option.bind_eq_some_iff.1 h;obtain⟨f2,p2,rfl⟩:=Bl.step_some (hw.map p1.fix) h2;obtain⟨s3,h3,h⟩:=Option.map_eq_some_iff.1 h;obtain⟨f3,p3,rfl⟩:=Bl.step_some ((hw.map p1.fix).map p2.fix) h3;have s1:f1 own.a=f1 other.a:=p1.same;have s2:f2 (f1 own.b)=f2 (f1 other.b):=p2.same;have s3:f3 (f2 (f1 own.c))=f3 (f2 (f1 other.c)):=p3.same;refine⟨fun x=>f3 (f2 (f1 x)),⟨fun c hc=>by rw[p1.fix c hc,p2.fix c hc,p3.fix c hc],h.symm,?_,?_,?_⟩⟩
 ·show R3.mk (f3 (f2 (f1 own.a))) (f3 (f2 (f1 own.b))) (f3 (f2 (f1 own.c)))=R3.mk (f3 (f2 (f1 other.a))) (f3 (f2 (f1 other.b))) (f3 (f2 (f1 other.c)));rw[s1,s2,s3]
 ·intro σ e x;unfold R3.map at e
  injection e with ea eb ec
  have b1:=p1.back σ ea;have b2:=p2.back σ (show σ (f1 own.b)=σ (f1 other.b) by rw[b1,b1,eb]);have b3:=p3.back σ (show σ (f2 (f1 own.c))=σ (f2 (f1 other.c)) by rw[b2,b2,b1,b1,ec]);rw[b3,b2,b1]
 ·intro P ho hp x hx;have k1:=p1.keep P (ho _ (.inl rfl)) (hp _ (.inl rfl));have k2:=p2.keep P (k1 _ (ho _ (.inr (.inl rfl)))) (k1 _ (hp _ (.inr (.inl rfl))));have k3:=p3.keep P (k2 _ (k1 _ (ho _ (.inr (.inr rfl))))) (k2 _ (k1 _ (hp _ (.inr (.inr rfl)))));exact k3 _ (k2 _ (k1 _ hx))
theorem Jk{r:Bm}{own other:R3}(hw:r.Wf)(h:Ck r own other=none){σ:Int->Int}(hσ:G0 σ):own.map σ≠other.map σ:=by
 intro e;unfold R3.map at e
 injection e with ea eb ec
 have h:((Bl.mk r own other).step own.a other.a).bind (fun s=>(s.step s.own.b s.other.b).bind fun s=>(s.step s.own.c s.other.c).map Bl.r)=none:=h
 cases h1:(Bl.mk r own other).step own.a other.a with
 |none=>exact Bl.step_none h1 hσ ea
 |some s1=>
  obtain⟨f1,p1,rfl⟩:=Bl.step_some hw h1;have b1:=p1.back σ ea;rw[h1]at h;simp only[Option.bind_some]at h
  cases h2:((Bl.mk r own other).map f1).step ((Bl.mk r own other).map f1).own.b ((Bl.mk r own other).map f1).other.b with
  |none=>exact Bl.step_none h2 hσ (show σ (f1 own.b)=σ (f1 other.b) by rw[b1,b1,eb])
  |some s2=>
   obtain⟨f2,p2,rfl⟩:=Bl.step_some (hw.map p1.fix) h2;have b2:=p2.back σ (show σ (f1 own.b)=σ (f1 other.b) by rw[b1,b1,eb]);rw[h2]at h;simp only[Option.bind_some]at h
   cases h3:(((Bl.mk r own other).map f1).map f2).step (((Bl.mk r own other).map f1).map f2).own.c (((Bl.mk r own other).map f1).map f2).other.c with
   |none=>exact Bl.step_none h3 hσ (show σ (f2 (f1 own.c))=σ (f2 (f1 other.c)) by rw[b2,b2,b1,b1,ec])
   |some s3=>rw[h3]at h;cases h
def DM(q x:R3):Prop:=∃σ,JK σ/\q.map σ=x
theorem DM.ground{q x:R3}(h:DM q x):x.Ground:=by obtain⟨σ,hσ,rfl⟩:=h;exact hσ.ground q
theorem R3.first_has(r:R3)(v:Int)(h:r.Has v):0<=r.first v:=by
 unfold R3.first;rcases h with rfl|rfl|rfl
 ·simp
 ·split
  ·omega
  ·simp
 ·split
  ·omega
  ·split
   ·omega
   ·simp
def LR(x:R3)(v:Int):Int:=if v= -1 then x.a else if v= -2 then x.b else if v= -3 then x.c else if v<0 then 0 else v
theorem DV{r x:R3}:DM r.kind x↔DM r x:=by
 constructor
 ·rintro⟨σ,hσ,rfl⟩;refine⟨fun v=>if v<0 then σ (-1-r.first v) else v,⟨fun c hc=>if_neg (by omega),fun v=>?_⟩,?_⟩
  ·show 0<=(if v<0 then σ (-1-r.first v) else v)
   split
   ·exact hσ.up _
   ·omega
  ·have h:∀t,(if t<0 then σ (-1-r.first t) else t)=σ (r.kindT t):=by
    intro t;unfold R3.kindT
    split
    ·rfl
    ·exact(hσ.fix t (by omega)).symm
   unfold R3.map R3.kind;simp only[h]
 ·rintro⟨σ,hσ,rfl⟩;refine⟨LR (r.map σ),⟨?_,?_⟩,?_⟩
  ·intro c hc;unfold LR;rw[if_neg (by omega),if_neg (by omega),if_neg (by omega),if_neg (by omega)]
  ·intro v;unfold LR R3.map;have:=hσ.up r.a;have:=hσ.up r.b;have:=hσ.up r.c
   split
   ·assumption
   ·split
    ·assumption
    ·split
     ·assumption
     ·split<;>omega
  ·have h:∀t,r.Has t->LR (r.map σ) (r.kindT t)=σ t:=by
    intro t ht;unfold R3.kindT
    split
    ·rename_i hn;unfold R3.first LR R3.map
     split
     ·rename_i e;simp[e]
     ·split
      ·rename_i e;simp[e]
      ·split
       ·rename_i e;simp[e]
       ·rcases ht with h|h|h<;>contradiction
    ·rename_i hn;unfold LR;rw[if_neg (by omega),if_neg (by omega),if_neg (by omega),if_neg hn];exact(hσ.fix t (by omega)).symm
   unfold R3.map R3.kind;congr 1
   ·exact h _ (.inl rfl)
   ·exact h _ (.inr (.inl rfl))
   ·exact h _ (.inr (.inr rfl))
theorem MI{r:R3}{t:Int}(h:r.kind.Has t):(-3<=t/\t<0)\/(0<=t/\r.Has t):=by
 have k:∀y,r.Has y->(-3<=r.kindT y/\r.kindT y<0)\/(0<=r.kindT y/\r.kindT y=y):=by
  intro y hy;unfold R3.kindT;have h1:=r.first_has y hy;have h2:=(r.first_le y).2
  split
  ·left
   omega
  ·right
   omega
 rcases h with rfl|rfl|rfl
 ·rcases k r.a (.inl rfl) with h|⟨h,e⟩
  ·exact .inl h
  ·exact .inr ⟨h,.inl e⟩
 ·rcases k r.b (.inr (.inl rfl)) with h|⟨h,e⟩
  ·exact .inl h
  ·exact .inr ⟨h,.inr (.inl e)⟩
 ·rcases k r.c (.inr (.inr rfl)) with h|⟨h,e⟩
  ·exact .inl h
  ·exact .inr ⟨h,.inr (.inr e)⟩
end
end Go.Proofs.YtpbfiffgcgnidaaGreat
