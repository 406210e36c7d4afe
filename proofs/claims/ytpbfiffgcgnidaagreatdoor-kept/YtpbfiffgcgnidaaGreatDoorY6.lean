import Derived.Test.YtpbfiffgcgnidaaGreatDoorYal
import Derived.Maps.OwnSet
import Derived.Maps.Keyed
import Derived.Test.YtpbfiffgcgnidaaGreatDoorY5
namespace Go.Proofs.YtpbfiffgcgnidaaGreatDoor
set_option maxRecDepth 100000
set_option maxHeartbeats 4000000
set_option linter.unusedSimpArgs false
open Go.Proofs.Tryz
section
attribute [local go_sem] AE As
open Go.RowKit
structure Bd where
 name:B8
 ts:List B8
 lits:List BQ
 ah:List Dg
structure nV where
 ok:Bool
 cls:List Bd
 rest:B8
def lW.d(r:lW):Bd:=⟨r.name,r.ts,r.lits,r.ah⟩
def EP(s:ByteArray):Nat->List Bd->B8->nV
 |0,ds,l=>if(AD l).isEmpty=true then⟨true,ds,AD l⟩ else⟨false,ds,AD l⟩
 |f+1,ds,l=>
  if(AD l).isEmpty=true then⟨true,ds,AD l⟩
  else if(BH s (AD l)).ok=false then⟨false,ds,(BH s (AD l)).rest⟩
  else EP s f (ds++[(BH s (AD l)).d]) (BH s (AD l)).rest
def Bs(s:ByteArray):nV:=EP s 40 [] s.data.toList
def D3(w:World)(base:Nat)(d:Bd)(cs:List Value):Prop:=
 ∃q sv,cs=Bp d.name d.ts++[q,sv]/\w.ownsRow base 186 6 q d.lits.length (d.lits.flatMap BQ.cells)/\w.ownsRow base 141 5 sv d.ah.length (d.ah.flatMap Dg.cells)
def DG(w:World)(base:Nat)(v:Value)(ds:List Bd):Prop:=
 ∃rows:List (List Value),w.ownsRow base 117 7 v ds.length rows.flatten/\rows.length=ds.length/\∀(i:Nat) (d:Bd) (cs:List Value),ds[i]? =some d->rows[i]? =some cs->D3 w base d cs
theorem D3.kept{w w':World}{base b:Nat}{d:Bd}{cs:List Value}(h:D3 w base d cs)(q:Bg b w w'){bs:List Value}{t:TypeId}(hb:Aw w b bs t)(h1:t≠186)(h2:t≠141):D3 w' base d cs:=by obtain⟨z,sv,hc,j,hs⟩:=h;exact⟨z,sv,hc,D1 j q (Av j hb h1),D1 hs q (Av hs hb h2)⟩
theorem DG.kept{w w':World}{base b:Nat}{v:Value}{ds:List Bd}(h:DG w base v ds)(q:Bg b w w'){bs:List Value}{t:TypeId}(hb:Aw w b bs t)(z:t≠117)(h1:t≠186)(h2:t≠141):DG w' base v ds:=by obtain⟨rows,j,y,k⟩:=h;exact⟨rows,D1 j q (Av j hb z),y,fun i d cs hd hc=>(k i d cs hd hc).kept q hb h1 h2⟩
theorem D3.alloc{w:World}{base:Nat}{d:Bd}{cs:List Value}(h:D3 w base d cs)(o:Obj):D3 (w.alloc o) base d cs:=by obtain⟨q,sv,hc,j,hs⟩:=h;exact⟨q,sv,hc,j.alloc o,hs.alloc o⟩
theorem DG.alloc{w:World}{base:Nat}{v:Value}{ds:List Bd}(h:DG w base v ds)(o:Obj):DG (w.alloc o) base v ds:=by obtain⟨rows,j,q,z⟩:=h;exact⟨rows,j.alloc o,q,fun i d cs hd hc=>(z i d cs hd hc).alloc o⟩
theorem DG.nil(w:World)(base:Nat):DG w base (.slice none 0 0) []:=⟨[],Ak _ _ _ _,rfl,by simp⟩
theorem DG.form{w:World}{base:Nat}{v:Value}{ds:List Bd}(h:DG w base v ds):∃ao cap,v=.slice ao ds.length cap:=by obtain⟨rows,q,hl,hr⟩:=h;exact Au q
theorem Vr:(prog.info? 117).map (fun i=>(i.zero,i.size,i.bytes))=some (some (.agg #[.string ⟨#[]⟩,.int .i64 0,.string ⟨#[]⟩,.string ⟨#[]⟩,.string ⟨#[]⟩,.slice none 0 0,.slice none 0 0]),7,120):=by kernel_rfl
theorem AF{P:Program}(w:World){p:Array Oper}{rest:List Oper}{o:Oper}{a:Act}{Q:Exit->Act->World->Prop}(J:o.guard=none)(s x:Operand)(t:TypeId)
 (U:o.op=.call { callee:=.builtin .append,args:=#[s,x],argTypes:=#[t,t] })
 (base:Nat)(e:TypeId)(i:TypeInfo)(z:Value)(size bytes:Nat)(ht:P.underlying t=some (.slice e))(V:P.info? e=some i)(G:i.zero=some z)
 (d:i.size=size)(l:i.bytes=bytes)(Y:z.cells.size=size)(Z:0<size)
 (v:Value)(n:Nat)(xs:List Value)(hs:a.eval s=v)(r:w.ownsRow base e size v n xs)
 (m:Addr)(c:Nat)(q:List Value)(hx:a.eval x=.slice (some m) 1 c)(hl:q.length=size)(b:∀j u,q[j]? =some u->w.cell? (m.add j)=some u)(h1:∀u∈q,u.oneCell'=true)
 (f:n+1<=maxLen)(y:(n+1)*bytes<=140737488355328)(k:base<=w.heap.size)
 (h:∀g cap w',w'.ownsRow base e size (.slice (some ⟨g,0,none⟩) (n+1) cap) (n+1) (xs++q)->w.grownBy w' v.ownBlock->wpList P p Q rest (a.put o.dst (.slice (some ⟨g,0,none⟩) (n+1) cap)) w'):wpList P p Q (o::rest) a w:=by
 refine DR w J s x t U base e i z size bytes ht V G d l Y Z v n xs hs r m 1 c q hx (by omega) b h1 f y k ?_;intro v' w' h2 h3 _;rcases h2.2 with⟨K,hn⟩|⟨g,cap,cur,K,_⟩
 ·omega
 ·subst K;exact h g cap w' h2 h3
def B2(w w1 w2:World):Prop:=w.heap.size<=w1.heap.size/\w.heap.size<=w2.heap.size
theorem DG.more{w w':World}{base:Nat}{v v':Value}{ds:List Bd}{d:Bd}{cs:List Value}{rows:List (List Value)}(p:∀(i:Nat) (d:Bd) (cs:List Value),ds[i]? =some d->rows[i]? =some cs->D3 w base d cs)(u:rows.length=ds.length)
 (g:w.ownsRow base 117 7 v ds.length rows.flatten)(hd:D3 w base d cs)
 (z:w'.ownsRow base 117 7 v' (ds.length+1) (rows.flatten++cs))(y:w.grownBy w' v.ownBlock):DG w' base v' (ds++[d]):=by
 have step:∀d cs,D3 w base d cs->D3 w' base d cs:=by rintro d cs ⟨b,sv,hc,q,j⟩;exact⟨b,sv,hc,q.kept y (Em q g (by decide)),j.kept y (Em j g (by decide))⟩
 refine⟨rows++[cs],by simpa using z,by simp[u],?_⟩;intro i t cs' h1 h2;by_cases r:i<ds.length
 ·rw[AU r]at h1;rw[AU (by omega)]at h2;exact step _ _ (p i t cs' h1 h2)
 ·rw[A0 (by omega)]at h1;rw[A0 (by omega),u]at h2
  cases hk:i-ds.length with
  |zero=>rw[hk]at h1 h2;simp at h1 h2;subst h1;subst h2;exact step _ _ hd
  |succ k=>rw[hk]at h1;simp at h1
theorem Gu(w:World)(o:Obj)(cs:List Value)(t:TypeId):∀j u,cs[j]? =some u->((w.alloc o).alloc (.cells cs.toArray t)).cell? ((⟨w.heap.size+1,0,none⟩:Addr).add j)=some u:=by
 intro j u h;have q:=AS (w.alloc o) cs t j u h;have e:(w.alloc o).heap.size=w.heap.size+1:=by simp
 rwa [e]at q
def Zl:Value->Nat|.slice _ n _=>n|_=>0
def NZ(r:nV)(s:ByteArray)(v:Value):Value:=if r.ok=true then .tuple #[v,.int .i64 0,.bool true] else .tuple #[.slice none 0 0,.int .i64 (Bn s r.rest),.bool false]
theorem IH(w:World)(s:ByteArray)(hs:s.size<=281474976710656):
 Calls prog 25 #[.string s] w fun e w'=>∃v,e=.returned (NZ (Bs s) s v)/\((Bs s).ok=true->DG w' w.heap.size v (Bs s).cls)/\Below w.heap.size w w':=by
 have f:s.size<=maxLen:=by unfold maxLen;omega
 have I:Rd (w.alloc (.cells #[.string s,.int .i64 0] 114)) w.heap.size s s.data.toList:=⟨0,by omega,by simp,Aw.new w [.string s,.int .i64 0] 114⟩;obtain⟨i1,H,q3,q4,q5⟩:=Bc Vr;go_enter func25,ntmps25;go_wp2
 go_loopw [6] (fun v wr=>∃(ds:List Bd) (r:B8),ds.length<=40/\Hid (EP s (40-ds.length) ds r=Bs s)/\Rd wr w.heap.size s r/\DG wr w.heap.size v ds/\Below w.heap.size w wr) (fun v _=>40-Zl v)
 case atStart=>exact⟨[],s.data.toList,by simp,rfl,I,DG.nil _ _,(Ag _ _).alloc (Ab _) _⟩
 case round=>
  obtain⟨ds,r,q9,N,b,l,X⟩:=hrel;obtain⟨ao,cap,rfl⟩:=l.form;have q8:w.heap.size<wr.heap.size:=b.lt;cases hem:(AD r).isEmpty
  ·by_cases o:ds.length=40
   ·have hq:((ds.length:Int)==40)=true:=by rw[Co];omega
    have a:Hid (Bs s=⟨false,ds,AD r⟩):=by show Bs s=_;rw[<-N.out,o];simp[EP,hem]
    clear o;go_wp2_with (go_at_call 56;refine(KG _ w.heap.size s r (by exact b) f).mono ?_;rintro e w1 ⟨rfl,z,j⟩;have c1:=z.c1)
    go_quiet (fail)
    go_wp2
    go_ret3
    rw[a.out];exact⟨.slice none 0 0,by simp[NZ],by simp,X.trans (UD (j.below (Ab _) (by omega)) _)⟩
   ·have hq:((ds.length:Int)==40)=false:=by rw[Az];omega
    have V:ds.length+1<=40:=by omega
    have HN:Hid (40-ds.length=(39-ds.length)+1):=by show 40-ds.length=_;omega
    clear o;obtain⟨m,Y⟩:∃m,Hid (m=AD r):=⟨_,rfl⟩;obtain⟨C,Z⟩:∃C,Hid (C=BH s m):=⟨_,rfl⟩;cases hok:C.ok
    ·have a:Hid (Bs s=⟨false,ds,C.rest⟩):=by show Bs s=_;rw[Z.out,Y.out]at hok;rw[<-N.out,HN.out];simp[EP,hem,hok,Z.out,Y.out]
     go_wp2_with (first|(go_at_call 56;refine(KG _ w.heap.size s r (by exact b) f).mono ?_;rintro e w1 ⟨rfl,z,j⟩;rw[<-Y.out]at z)|(go_at_call 57;refine(T0 _ w.heap.size s m (by exact z) hs).mono ?_;rintro e w2 ⟨v,rfl,U,k,x⟩;rw[<-Z.out]at U k;obtain⟨n0,t0,t1,t2,c,t,n,M,P,y,q,p,-⟩:=U;rw[hok]at p;subst p;have c1:=k.c1;have q6:w.heap.size<w2.heap.size:=k.lt))
     go_quiet (fail)
     go_wp2
     go_ret3
     rw[a.out];exact⟨.slice none 0 0,by simp[NZ],by simp,X.trans (UD (((j.trans x).aj _).below (Ab _) (by omega)) _)⟩
    ·have a:Hid (EP s (40-(ds++[C.d]).length) (ds++[C.d]) C.rest=Bs s):=by show EP s (40-(ds++[C.d]).length) (ds++[C.d]) C.rest=Bs s;rw[Z.out,Y.out]at hok;rw[<-N.out,HN.out,Am,List.length_singleton,show 40-(ds.length+1)=39-ds.length by omega];simp[EP,hem,hok,Z.out,Y.out]
     go_wp2_with (first|(go_at_call 56;refine(KG _ w.heap.size s r (by exact b) f).mono ?_;rintro e w1 ⟨rfl,z,j⟩;rw[<-Y.out]at z)|(go_at_call 57;refine(T0 _ w.heap.size s m (by exact z) hs).mono ?_;rintro e w2 ⟨v,rfl,U,k,x⟩;rw[<-Z.out]at U k;obtain⟨n0,t0,t1,t2,c,t,n,M,P,y,q,p,R⟩:=U;have A:=Ao (R hok);clear R;rw[hok]at p;subst p;have q6:w.heap.size<w2.heap.size:=k.lt;have E:=Ao ((l.kept j b.at.1 (by decide) (by decide) (by decide)).kept x z.at.1 (by decide) (by decide) (by decide));obtain⟨rows,S,hl,hr⟩:=E.out;have HL:=Ao hl;clear hl;have K:B2 w w1 w2:=⟨by have:=j.size;omega,by omega⟩)|(at_builtin;refine AF _ rfl _ _ 52 rfl w.heap.size 117 i1 _ 7 120 underlying52 H q3 q4 q5 rfl (by decide) _ ds.length rows.flatten rfl ((S.alloc _).alloc _) ⟨w2.heap.size+1,0,none⟩ 1 [Value.string n0,.int .i64 c,.string t0,.string t1,.string t2,.slice t M y,.slice n P q] rfl rfl (Gu _ _ _ _) (by intro u hu;simp at hu;rcases hu with rfl|rfl|rfl|rfl|rfl|rfl|rfl<;>rfl) (by unfold maxLen;omega) (by omega) (by simp;omega) ?_;intro g q7 w3 W Q));obtain⟨q0,q1,q2,G,B⟩:=A.out
     have h:D3 w2 w.heap.size C.d [Value.string n0,.int .i64 c,.string t0,.string t1,.string t2,.slice t M y,.slice n P q]:=by
      refine⟨.slice t M y,.slice n P q,?_,?_,?_⟩
      ·show [Value.string n0,.int .i64 c,.string t0,.string t1,.string t2]++[Value.slice t M y,.slice n P q]=_;rw[q0];rfl
      ·rw[q1]at G⊢;exact BS G K.1
      ·rw[q2]at B⊢;exact BS B K.1
     have J:=DG.more (fun i d cs h1 h2=>((hr i d cs h1 h2).alloc _).alloc _) HL.out ((S.alloc _).alloc _) ((h.alloc _).alloc _) W Q;have L:=((k.alloc _).alloc _).grown Q (Av S k.at.1 (by decide));have O:=((X.trans ((j.trans x).below (Ab _) (by omega))).alloc (by omega) _|>.alloc (by simp;omega) _).grown Q (by simp;omega) (A9 S);exact⟨⟨ds++[C.d],C.rest,by simpa using V,a,L,J,O⟩,by simp[Zl];omega⟩
  ·have a:Hid (Bs s=⟨true,ds,AD r⟩):=by show Bs s=_;rw[<-N.out];cases 40-ds.length<;>simp[EP,hem]
   go_wp2_with (go_at_call 56;refine(KG _ w.heap.size s r (by exact b) f).mono ?_;rintro e w1 ⟨rfl,z,j⟩)
   go_ret3
   rw[a.out];exact⟨_,by simp[NZ],fun _=>l.kept j b.at.1 (by decide) (by decide) (by decide),X.trans (j.below (Ab _) (by omega))⟩
end
section
attribute [local go_sem] AE As
open Go.RowKit Go.WideMaps Go.Maps
theorem fZ:Keyed prog 9:=string_keyed underlying9
theorem KO(w:World):(zeroValue 3).run prog w=.ok (.int .i64 0) w:=by kernel_rfl
def CI(xs:List B8)(k:B8):Nat:=if k∈xs then xs.idxOf k else 0
theorem Oe(k:B8):WideAt.IsKeyLit (.string k):=by simp[WideAt.IsKeyLit]
theorem NC(k:B8):(bs k).size=k.length:=by simp[bs,ByteArray.size]
def BZ(xs:List B8)(k:B8):Bool:=xs.contains k
def lC(xs:List B8)(i:Nat):ByteArray:=bs (xs.getD i [])
def O3(D:DataW Unit)(xs:List B8):Prop:=
 IsMap D/\∀k:B8,Maps.has D (.string k)=BZ xs k/\D.atKey (.string k) (.lit (.int .i64 0))=.lit (.int .i64 (CI xs k))
theorem O3.nil:O3 (.map []) []:=⟨isMap_empty,fun _=>⟨rfl,rfl⟩⟩
theorem O3.put{D:DataW Unit}{xs:List B8}(h:O3 D xs)(k:B8)(y:k∉xs):O3 (D.put (.string k) (.lit (.int .i64 xs.length))) (xs++[k]):=by
 refine⟨h.1.put _ _,fun j=>?_⟩;by_cases z:j=k
 ·subst z;rw[has_put_same h.1 (Oe j),atKey_put_same h.1 (Oe j)];refine⟨by simp[BZ],?_⟩;have:CI (xs++[j]) j=xs.length:=by simp[CI,Ec,y]
  rw[this]
 ·have q:(Lit.string j)≠ .string k:=by intro e;exact z (by injection e)
  rw[has_put_other q,atKey_put_other q,(h.2 j).1,(h.2 j).2];refine⟨by simp[BZ,z],?_⟩
  have:CI (xs++[k]) j=CI xs j:=by
   by_cases hx:j∈xs
   ·simp[CI,hx,Ec]
   ·simp[CI,hx,z]
  rw[this]
def Cr(w:World)(base:Nat)(mv lv:Value)(xs:List B8):Prop:=
 w.ownsRow base 9 1 lv xs.length (xs.map fun x=>.string (bs x))/\
 ((mv=.map none/\xs=[])\/∃r D,mv=.map (some r)/\base<=r/\w.ownsMap (H:=Unit) prog 9 (plainElem prog 3) r xs.length D/\O3 D xs)
theorem J8(w:World)(base sb:Nat)(mv lv:Value)(y:List Value)(t:TypeId)(xs:List B8)(k:B8)(d:Aw w sb (mv::lv::y) t)(hS:Cr w base mv lv xs)(n:k.length<=maxLen):
 Calls prog 75 #[.pointer (some ⟨sb,0,none⟩),.string (bs k)] w fun e w'=>e=.returned (.tuple #[.int .i64 (CI xs k:Nat),.bool (BZ xs k)])/\w'=w:=by
 have c0:w.cell? ⟨sb,0,none⟩=some mv:=d.cell 0;have q:keyOf prog 9 (.string (bs k))=some (.string k):=keyOf_string_mk underlying9 (by rw[NC];exact n);rcases hS.2 with⟨rfl,rfl⟩|⟨r,D,rfl,hr,z,c⟩
 ·have q0:=fun w:World=>look_nil (w:=w) true fZ underlying176 (KO w) q;go_enter func75,ntmps75;go_wp2;go_ret2;exact⟨rfl,rfl⟩
 ·obtain⟨m,u⟩:=c.2 k;obtain⟨p,g⟩:∃p:Int,Hid (p=(CI xs k:Nat)):=⟨_,rfl⟩;rw[<-g.out]at u⊢;go_enter func75,ntmps75;go_wp2_with (at_lookup;refine wpList_lookup_own_ok_int _ rfl _ _ 176 rfl 9 3 .i64 fZ underlying176 underlying3 (KO _) r xs.length D rfl z _ _ rfl q ?_;intro b j q1;rw[m];have v:b=p:=(by rw[u]at j;simpa using j.symm);subst v);go_ret2;exact⟨rfl,rfl⟩
theorem aI(w:World)(base sb:Nat)(mv lv:Value)(q:List Value)(t:TypeId)(xs:List B8)(k:B8)(y:Aw w sb (mv::lv::q) t)(hS:Cr w base mv lv xs)(v:k.length<=maxLen):
 Calls prog 95 #[.pointer (some ⟨sb,0,none⟩),.string (bs k)] w fun e w'=>e=.returned (.bool (BZ xs k))/\w'=w:=by
 obtain⟨p,z⟩:∃p:Int,Hid (p=(CI xs k:Nat)):=⟨_,rfl⟩;go_enter func95,ntmps95;go_wp2_with (go_at_call 75;refine(J8 _ base sb mv lv q t xs k y hS v).mono ?_;rintro e w1 ⟨j,rfl⟩;rw[<-z.out]at j;subst j)
 go_ret
 exact⟨rfl,rfl⟩
theorem Tm(w:World)(base sb:Nat)(mv lv:Value)(q:List Value)(t:TypeId)(xs:List B8)(j:Aw w sb (mv::lv::q) t)(hS:Cr w base mv lv xs):
 Calls prog 76 #[.pointer (some ⟨sb,0,none⟩)] w fun e w'=>e=.returned (.int .i64 xs.length)/\w'=w:=by
 obtain⟨ao,cap,rfl⟩:=Au hS.1;have c1:w.cell? ⟨sb,1,none⟩=some (.slice ao xs.length cap):=j.cell 1;go_enter func76,ntmps76;go_wp2
 go_ret
 exact⟨rfl,rfl⟩
theorem DO{w:World}{base:Nat}{e:TypeId}{ao:Option Addr}{n cap:Nat}{xs:List Value}(h:w.ownsRow base e 1 (.slice ao n cap) n xs)(j:Nat)(hj:j<n):∃g,ao=some ⟨g,0,none⟩/\w.cell? ⟨g,j,none⟩=xs[j]? :=by
 rcases h.2 with⟨h1,h2⟩|⟨g,q0,cur,h1,_,_⟩
 ·omega
 ·injection h1 with h1
  refine⟨g,h1,?_⟩;subst h1;have q:j<xs.length:=by have:=h.1;omega
  have:=h.cells (g:=g) rfl j xs[j] (by simp[q]);rw[Jg,B7]at this;rw[this];simp[q]
theorem mU(w:World)(base sb:Nat)(mv lv:Value)(q:List Value)(t:TypeId)(xs:List B8)(y:Aw w sb (mv::lv::q) t)(hS:Cr w base mv lv xs)(i:Nat)(z:i<xs.length):
 Calls prog 138 #[.pointer (some ⟨sb,0,none⟩),.int .i64 i] w fun e w'=>e=.returned (.string (lC xs i))/\w'=w:=by
 obtain⟨ao,cap,rfl⟩:=Au hS.1;have c1:w.cell? ⟨sb,1,none⟩=some (.slice ao xs.length cap):=y.cell 1;obtain⟨g,rfl,j⟩:=DO hS.1 i z;have q0:w.cell? ⟨g,i,none⟩=some (.string (lC xs i)):=by rw[j];simp[z,lC]
 clear j;go_enter func138,ntmps138;go_wp2
 go_ret
 exact⟨rfl,rfl⟩
structure Bz(base sb:Nat)(T:List TypeId)(w w':World):Prop where
 os:w'.os=w.os
 tape:w'.tape=w.tape
 output:w'.output=w.output
 size:w.heap.size<=w'.heap.size
 low:∀k,k<base->k≠sb->w'.heap[k]? =w.heap[k]?
 ty:∀(k:Nat) (cs:List Value) (t:TypeId),k≠sb->t∉T->Aw w k cs t->Aw w' k cs t
theorem Bz.refl(base sb:Nat)(T:List TypeId)(w:World):Bz base sb T w w:=⟨rfl,rfl,rfl,Ab _,fun _ _ _=>rfl,fun _ _ _ _ _ h=>h⟩
theorem Bz.trans{base sb:Nat}{T:List TypeId}{u v w:World}(h:Bz base sb T u v)(k:Bz base sb T v w):Bz base sb T u w:=
 ⟨k.os.trans h.os,k.tape.trans h.tape,k.output.trans h.output,Ay h.size k.size,fun i q hn=>(k.low i q hn).trans (h.low i q hn),fun i cs t h1 h2 h3=>k.ty i cs t h1 h2 (h.ty i cs t h1 h2 h3)⟩
theorem Bz.kept{base sb:Nat}{T:List TypeId}{v w:World}(k:Bg sb v w)(hb:base<=v.heap.size):Bz base sb T v w:=
 ⟨k.os,k.tape,k.output,k.size,fun i hi hn=>k.block i (by omega) hn,fun _ _ _ h1 _ h3=>h3.kept k h1⟩
theorem Bz.own{base sb:Nat}{T:List TypeId}{w w':World}(h:Bz base sb T w w'){base':Nat}{e:TypeId}{size:Nat}{v:Value}{n:Nat}{xs:List Value}(z:w.ownsRow base' e size v n xs)(q:v.ownBlock≠some sb)(u:e∉T):w'.ownsRow base' e size v n xs:=by
 refine⟨z.1,?_⟩;rcases z.2 with h2|⟨g,cap,cur,y,b,d,r⟩
 ·exact .inl h2
 ·refine .inr ⟨g,cap,cur,y,b,?_,r⟩;have j:=h.ty g cur.toList e (by intro k;rw[y]at q;simp[Value.ownBlock,k]at q) u (by unfold Aw;simpa using d);unfold Aw at j;simpa using j
theorem Bz.grown{base sb:Nat}{T:List TypeId}{w w':World}{base':Nat}{e:TypeId}{size:Nat}{v:Value}{n:Nat}{xs:List Value}(q:w.grownBy w' v.ownBlock)(j:w.ownsRow base' e size v n xs)(hb:base<=base')(hw:base<=w.heap.size)(z:e∈T):Bz base sb T w w':=by refine⟨q.os,q.tape,q.output,q.size,fun k hk _=>q.block k (by omega) (fun e=>by have:=A9 j k e.symm;omega),fun k cs t _ h2 h3=>h3.grown q (Av j h3 (fun e=>h2 (e▸z)))⟩
theorem E9{w:World}{P:Program}{k:TypeId}{R:Value->Option (DataW Unit×List MemPlace)}{r n:Nat}{D:DataW Unit}(h:w.ownsMap P k R r n D){b:Nat}{cs:List Value}{t:TypeId}(hb:Aw w b cs t):b≠r:=by obtain⟨es,q0,q,_⟩:=h;intro e;subst e;unfold Aw at hb;rw[hb]at q;simp at q
theorem Iw{w:World}{P:Program}{k:TypeId}{R:Value->Option (DataW Unit×List MemPlace)}{r n:Nat}{D:DataW Unit}(h:w.ownsMap P k R r n D){base:Nat}{e:TypeId}{size:Nat}{v:Value}{m:Nat}{xs:List Value}(z:w.ownsRow base e size v m xs):v.ownBlock≠some r:=by
 rcases z.2 with⟨rfl,_⟩|⟨g,cap,cur,rfl,_,j,_⟩
 ·simp[Value.ownBlock]
 ·intro q;simp only[Value.ownBlock,Al]at q;exact E9 h (b:=g) (cs:=cur.toList) (t:=e) (by unfold Aw;simpa using j) q
theorem Bz.map{base sb:Nat}{T:List TypeId}{w w':World}{P:Program}{k:TypeId}{R:Value->Option (DataW Unit×List MemPlace)}{r n:Nat}{D:DataW Unit}(q:w.grownBy w' (some r))(h:w.ownsMap P k R r n D)(hb:base<=r):Bz base sb T w w':=
 ⟨q.os,q.tape,q.output,q.size,fun i hi _=>q.block i (by have:=h.lt;omega) (by simp;omega),fun i cs t _ _ h3=>h3.grown q (by intro e;simp at e;exact E9 h h3 e.symm)⟩
theorem Fa{w w':World}{P:Program}{k:TypeId}{R:Value->Option (DataW Unit×List MemPlace)}{r n b:Nat}{D:DataW Unit}(h:w.ownsMap P k R r n D)(q:Bg b w w')(hn:r≠b):w'.ownsMap P k R r n D:=
 h.kept (row:=some b) ⟨q.os,q.tape,q.output,q.size,fun i z j=>q.block i z (fun e=>j (by rw[e]))⟩ (by simpa using hn)
theorem Hk:(prog.info? 9).map (fun i=>(i.zero,i.size,i.bytes))=some (some (.string ⟨#[]⟩),1,16):=by kernel_rfl
theorem WR(w:World)(base sb:Nat)(mv lv:Value)(q:List Value)(t:TypeId)(xs:List B8)(k:B8)(y:Aw w sb (mv::lv::q) t)(hS:Cr w base mv lv xs)(v:k.length<=maxLen)(hx:BZ xs k=true):
 Calls prog 107 #[.pointer (some ⟨sb,0,none⟩),.string (bs k)] w fun e w'=>e=.returned (.tuple #[.int .i64 (CI xs k),.bool false])/\w'=w:=by
 obtain⟨p,j⟩:∃p:Int,Hid (p=(CI xs k:Nat)):=⟨_,rfl⟩;rw[<-j.out];go_enter func107,ntmps107;go_wp2_with (go_at_call 75;refine(J8 _ base sb mv lv q t xs k y hS v).mono ?_;rintro e w1 ⟨z,rfl⟩;rw[hx,<-j.out]at z;subst z);go_ret2;exact⟨rfl,rfl⟩
theorem WS(w:World)(base sb:Nat)(mv lv:Value)(m:List Value)(t:TypeId)(xs:List B8)(k:B8)(i:Aw w sb (mv::lv::m) t)(hS:Cr w base mv lv xs)(hk:k.length<=maxLen)(hx:BZ xs k=false)(hn:xs.length<=100000)(ht:t≠9)(Z:base<=w.heap.size):
 Calls prog 107 #[.pointer (some ⟨sb,0,none⟩),.string (bs k)] w fun e w'=>e=.returned (.tuple #[.int .i64 xs.length,.bool true])/\
  ∃M lv',Aw w' sb (M::lv'::m) t/\Cr w' base M lv' (xs++[k])/\Bz base sb [9] w w':=by
 have K:k∉xs:=by simpa[BZ]using hx
 have c0:w.cell? ⟨sb,0,none⟩=some mv:=i.cell 0;have c1:w.cell? ⟨sb,1,none⟩=some lv:=i.cell 1;have l:keyOf prog 9 (.string (bs k))=some (.string k):=keyOf_string_mk underlying9 (by rw[NC];exact hk);obtain⟨i1,Y,B,R,C⟩:=Bc Hk;obtain⟨pp,HP⟩:∃p:Int,Hid (p=(CI xs k:Nat)):=⟨_,rfl⟩;have hF:=J8 w base sb mv lv m t xs k i hS hk;rw[hx,<-HP.out]at hF;obtain⟨ao,cap,rfl⟩:=Au hS.1;rcases hS.2 with⟨rfl,rfl⟩|⟨r,D,rfl,hr,c,hD⟩
 ·have V:=fun w:World=>DX (P:=prog) w 176 9 3 none underlying176;have q1:=@run_makeMap prog;have q0:=i.lt;have Q:sb≠w.heap.size:=by omega
  have f0:=i.frozen
  have o:((w.setCell ⟨sb,0,none⟩ (.map (some w.heap.size))).alloc (.map #[] 0)).ownsMap (H:=Unit) prog 9 (plainElem prog 3) w.heap.size 0 (.map []):=by
   have h:=World.ownsMap_made (H:=Unit) (w.setCell ⟨sb,0,none⟩ (.map (some w.heap.size))) prog 9 (plainElem prog 3);have e:(w.setCell ⟨sb,0,none⟩ (.map (some w.heap.size))).heap.size=w.heap.size:=by simp[World.setCell]
   rwa [e]at h
  have O:Aw ((w.setCell ⟨sb,0,none⟩ (.map (some w.heap.size))).alloc (.map #[] 0)) sb (.map (some w.heap.size):: .slice ao 0 cap::m) t:=(i.setCell 0 (.map (some w.heap.size))).alloc (.map #[] 0);have a:=Hp hS.1 (k:=w.heap.size) (Ab _);have I:=(AJ hS.1 ⟨sb,0,none⟩ (.map (some w.heap.size)) (Av hS.1 i ht)).alloc (.map #[] 0);clear hx;go_enter func107,ntmps107;go_wp2_with (first|(go_at_call 75;refine hF.mono ?_;rintro e w9 ⟨rfl,L⟩;subst w9)|(at_mapUpdate;refine Fo _ rfl _ _ _ 176 rfl 9 3 fZ underlying176 _ w.heap.size 0 (.map []) rfl o (by unfold maxLen;omega) _ _ _ rfl rfl l _ [] (C2 underlying3 (by decide)) ?_;intro w1 d z;have q:=O.grown z (by simpa using Q.symm);have v:=I.kept z (.inr a);have N:=q.cell 0;have X:=q.cell 1;have fB:=q.frozen;simp at N X)|(at_builtin;refine AF _ rfl _ _ 31 rfl base 9 i1 _ 1 16 underlying31 Y B R C rfl (by decide) _ 0 [] rfl (v.alloc _) ⟨w1.heap.size,0,none⟩ 1 [.string (bs k)] rfl rfl (AS _ _ _) (by intro u G;simp at G;subst G;rfl) (by unfold maxLen;omega) (by omega) (by have:=z.size;simp at this;simp;omega) ?_;intro g s w2 f y;have j:=(q.alloc _).grown y (Av v q ht);have S:=j.cell 0;have E:=j.cell 1;have A:=j.frozen;simp at S E));go_ret2;have J:base<=w1.heap.size:=by have:=z.size;simp at this;omega
  refine⟨rfl,.map (some w.heap.size),.slice (some ⟨g,0,none⟩) 1 s,j.setCell 1 _,⟨?_,.inr ⟨w.heap.size,_,rfl,Z,?_,O3.nil.put k K⟩⟩,?_⟩
  ·simpa using AJ f ⟨sb,1,none⟩ _ (Av f j ht)
  ·have h2:=(d.alloc _).kept y (FG a);simpa using Fa h2 (Bg.setCell (b:=sb) w2 (p:=⟨sb,1,none⟩) rfl _) Q.symm
  ·refine(Bz.kept (Bg.setCell (b:=sb) w (p:=⟨sb,0,none⟩) rfl _) Z).trans ((Bz.kept (Bg.alloc sb _ _) (by simp[World.setCell];omega)).trans ((Bz.map z o Z).trans ((Bz.kept (Bg.alloc sb w1 _) J).trans ((Bz.grown y (v.alloc _) (Ab _) (by simp;omega) (by simp)).trans (Bz.kept (Bg.setCell (b:=sb) w2 (p:=⟨sb,1,none⟩) rfl _) ?_)))));have:=y.size;simp at this;omega
 ·obtain⟨hh,ha⟩:=hD.2 k;rw[hx]at hh;have V:=fun w:World=>DX (P:=prog) w 176 9 3 (some r) underlying176;have W:(Lit.int .i64 (xs.length:Int)).wf=true:=Hg (n:=(xs.length:Int)) ⟨by omega,by omega⟩;have U:=E9 c i;have a:=Iw c hS.1;clear hx;go_enter func107,ntmps107;go_wp2_with (first|(go_at_call 75;refine hF.mono ?_;rintro e w9 ⟨rfl,L⟩;subst w9)|(at_mapUpdate;refine Fo _ rfl _ _ _ 176 rfl 9 3 fZ underlying176 _ r xs.length D rfl c (by unfold maxLen;omega) _ _ _ rfl rfl l _ [] (C2 underlying3 W) ?_;intro w1 d z;have q:=i.grown z (by simpa using U.symm);have v:=hS.1.kept z (.inr a);have N:=q.cell 0;have X:=q.cell 1;have fB:=q.frozen;simp at N X)|(at_builtin;refine AF _ rfl _ _ 31 rfl base 9 i1 _ 1 16 underlying31 Y B R C rfl (by decide) _ xs.length (xs.map fun x=>.string (bs x)) rfl (v.alloc _) ⟨w1.heap.size,0,none⟩ 1 [.string (bs k)] rfl rfl (AS _ _ _) (by intro u G;simp at G;subst G;rfl) (by unfold maxLen;omega) (by omega) (by have:=z.size;simp;omega) ?_;intro g s w2 f y;have j:=(q.alloc _).grown y (Av v q ht);have S:=j.cell 0;have E:=j.cell 1;have A:=j.frozen;simp at S E));go_ret2;have J:base<=w1.heap.size:=by have:=z.size;omega
  refine⟨rfl,.map (some r),.slice (some ⟨g,0,none⟩) (xs.length+1) s,j.setCell 1 _,⟨?_,.inr ⟨r,_,rfl,hr,?_,hD.put k K⟩⟩,?_⟩
  ·simpa using AJ f ⟨sb,1,none⟩ _ (Av f j ht)
  ·have h2:=(d.alloc _).kept y (FG a);simpa using Fa h2 (Bg.setCell (b:=sb) w2 (p:=⟨sb,1,none⟩) rfl _) U.symm
  ·refine(Bz.map z c hr).trans ((Bz.kept (Bg.alloc sb w1 _) J).trans ((Bz.grown y (v.alloc _) (Ab _) (by simp;omega) (by simp)).trans (Bz.kept (Bg.setCell (b:=sb) w2 (p:=⟨sb,1,none⟩) rfl _) ?_)));have:=y.size;simp at this;omega
end
section
attribute [local go_sem] AE As
open Go.RowKit
def Bd.atoms(d:Bd):List (B8×List B8):=(d.name,d.ts)::d.lits.map fun l=>(l.name,l.ts)
def FF(p:B8×List B8):List Value:=Bp p.1 p.2
theorem TC:(prog.info? 80).map (fun i=>(i.zero,i.size,i.bytes))=some (some (.agg #[.string ⟨#[]⟩,.int .i64 0,.string ⟨#[]⟩,.string ⟨#[]⟩,.string ⟨#[]⟩]),5,72):=by kernel_rfl
theorem E8{w:World}{base:Nat}{e:TypeId}{ao:Option Addr}{n cap size:Nat}{rows:List (List Value)}(h:w.ownsRow base e size (.slice ao n cap) n rows.flatten)(z:∀r∈rows,r.length=size)(hl:rows.length=n)(i:Nat)(u:i<n):
 ∃g,ao=some ⟨g,0,none⟩/\base<=g/\∀j,j<size->w.cell? ⟨g,i*size+j,none⟩=(rows.getD i [])[j]? :=by
 rcases h.2 with⟨h1,h2⟩|⟨g,q0,cur,h1,hb,_⟩
 ·omega
 ·injection h1 with h1
  refine⟨g,h1,hb,?_⟩;subst h1;intro j d
  have k:∀(rows:List (List Value)) (i:Nat),(∀r∈rows,r.length=size)->i<rows.length->rows.flatten[i*size+j]? =(rows.getD i [])[j]? :=by
   intro rows
   induction rows with
   |nil=>intro i _ h;simp at h
   |cons r rs t=>
    intro i z u;have v:=z r (by simp)
    cases i with
    |zero=>simp[AU (show j<r.length by omega)]
    |succ i=>rw[List.flatten_cons,A0 (by rw[v,Nat.succ_mul];omega),v,show(i+1)*size+j-size=i*size+j by rw[Nat.succ_mul];omega];simp only[List.length_cons]at u;rw[t i (fun r y=>z r (by simp[y])) (by omega)];simp
  have b:=k rows i z (by omega);have q:j<(rows.getD i []).length:=by rw[Ap,Ar (by omega:i<rows.length)];simp only[Option.getD_some];rw[z _ (Aj _)];exact d
  rw[Ar q]at b⊢;have:=h.cells (g:=g) rfl (i*size+j) _ b;rw[Jg,B7]at this;exact this
theorem J5{α:Type}(f:α->List Value)(l:List α):l.flatMap f=(l.map f).flatten:=by simp[List.flatMap]
def BQ.nm(d:BQ):ByteArray:=bs d.name
def BQ.cn(d:BQ):Int:=d.ts.length
def BQ.t(d:BQ)(i:Nat):ByteArray:=bs (d.ts.getD i [])
theorem BQ.ei(d:BQ):d.cells=[.string d.nm,.int .i64 d.cn,.string (d.t 0),.string (d.t 1),.string (d.t 2),.bool d.neg]:=rfl
theorem BQ.eo(d:BQ):FF (d.name,d.ts)=[.string d.nm,.int .i64 d.cn,.string (d.t 0),.string (d.t 1),.string (d.t 2)]:=rfl
theorem Jq{w:World}{base:Nat}{ao:Option Addr}{cap:Nat}{lits:List BQ}(h:w.ownsRow base 186 6 (.slice ao lits.length cap) lits.length (lits.flatMap BQ.cells))(i:Nat)(q:i<lits.length):
 ∃g,ao=some ⟨g,0,none⟩/\g<w.heap.size/\w.cell? ⟨g,i*6,none⟩=some (.string lits[i].nm)/\w.cell? ⟨g,i*6+1,none⟩=some (.int .i64 lits[i].cn)/\w.cell? ⟨g,i*6+2,none⟩=some (.string (lits[i].t 0))/\
  w.cell? ⟨g,i*6+3,none⟩=some (.string (lits[i].t 1))/\w.cell? ⟨g,i*6+4,none⟩=some (.string (lits[i].t 2))/\w.cell? ⟨g,i*6+5,none⟩=some (.bool lits[i].neg):=by
 rw[J5]at h;obtain⟨g,rfl,hb,hc⟩:=E8 h (by intro r j;simp at j;obtain⟨d,_,rfl⟩:=j;rfl) (by simp) i q;have e:(lits.map BQ.cells).getD i []=lits[i].cells:=by simp[q]
 rw[e,BQ.ei]at hc;exact⟨g,rfl,(h.lt g rfl).2,hc 0 (by decide),hc 1 (by decide),hc 2 (by decide),hc 3 (by decide),hc 4 (by decide),hc 5 (by decide)⟩
theorem LQ(w:World)(base:Nat)(n0 t0 t1 t2:ByteArray)(c:Int)(ao:Option Addr)(cap:Nat)(name:B8)(ts:List B8)(lits:List BQ)
 (Y:[Value.string n0,.int .i64 c,.string t0,.string t1,.string t2]=Bp name ts)(X:w.ownsRow base 186 6 (.slice ao lits.length cap) lits.length (lits.flatMap BQ.cells))(hn:lits.length<=100):
 Calls prog 91 #[.agg #[.string n0,.int .i64 c,.string t0,.string t1,.string t2,.slice ao lits.length cap]] w fun e w'=>∃g q,e=.returned (.slice (some ⟨g,0,none⟩) (lits.length+1) q)/\
  w'.ownsRow w.heap.size 80 5 (.slice (some ⟨g,0,none⟩) (lits.length+1) q) (lits.length+1) (((name,ts)::lits.map fun l=>(l.name,l.ts)).flatMap FF)/\Below w.heap.size w w':=by
 have V:=Ao Y;clear Y;obtain⟨S,a,Q,J,Z⟩:=Bc TC;go_enter func91,ntmps91;go_wp2
 go_loopw [3,12] (fun v i wr=>∃(k g q:Nat),k<=lits.length/\i=.int .i64 k/\v=.slice (some ⟨g,0,none⟩) (k+1) q/\
  wr.ownsRow w.heap.size 80 5 (.slice (some ⟨g,0,none⟩) (k+1) q) (k+1) (((name,ts)::(lits.take k).map fun l=>(l.name,l.ts)).flatMap FF)/\Below w.heap.size w wr) (fun _ i _=>lits.length-(intOf i).toNat)
 case atStart=>refine⟨0,w.heap.size+1,1,by omega,rfl,rfl,?_,((Ag _ _).alloc (Ab _) _).alloc (by simp) _⟩;have h:=Nt (base:=w.heap.size) (C9 w (.cells #[Value.string n0,.int .i64 c,.string t0,.string t1,.string t2,.slice ao lits.length cap] 86) [Value.string n0,.int .i64 c,.string t0,.string t1,.string t2] 80) rfl (by omega);simp only[List.take_zero,KM,Cg,List.flatMap_nil,BC,FF];rw[<-V.out];exact h
 case round=>
  obtain⟨k,g,q,hk,rfl,rfl,m,z⟩:=hrel;by_cases y:k<lits.length
  ·obtain⟨g0,rfl,j,G,B,R,P,C,M⟩:=Jq X k y;generalize d:lits[k]=L at*;have n:=Ao d;clear d;rw[<-z.cell (p:=⟨g0,k*6,none⟩) j]at G;rw[<-z.cell (p:=⟨g0,k*6+1,none⟩) j]at B;rw[<-z.cell (p:=⟨g0,k*6+2,none⟩) j]at R;rw[<-z.cell (p:=⟨g0,k*6+3,none⟩) j]at P;rw[<-z.cell (p:=⟨g0,k*6+4,none⟩) j]at C;rw[<-z.cell (p:=⟨g0,k*6+5,none⟩) j]at M;have s:w.heap.size<=wr.heap.size:=z.size;have U:Hid (((name,ts)::(lits.take k).map fun l=>(l.name,l.ts)).flatMap FF++[.string L.nm,.int .i64 L.cn,.string (L.t 0),.string (L.t 1),.string (L.t 2)]=((name,ts)::(lits.take (k+1)).map fun l=>(l.name,l.ts)).flatMap FF):=by show _=_;rw[Ad y,n.out,<-BQ.eo];simp[BG]
   go_wp2_with (at_builtin;refine AF _ rfl _ _ 181 rfl w.heap.size 80 S _ 5 72 underlying181 a Q J Z rfl (by decide) _ (k+1) _ rfl ((m.alloc _).alloc _) ⟨wr.heap.size+1,0,none⟩ 1 [.string L.nm,.int .i64 L.cn,.string (L.t 0),.string (L.t 1),.string (L.t 2)] rfl rfl (Gu _ _ _ _) (by intro u K;simp at K;rcases K with rfl|rfl|rfl|rfl|rfl<;>rfl) (by unfold maxLen;omega) (by omega) (by simp;omega) ?_;intro N b w3 r f);rw[U.out]at r;have x:=((z.alloc s _).alloc (by simp;omega) _).grown f (by simp;omega) (A9 m);exact⟨⟨k+1,N,b,y,by go_num,rfl,r,x⟩,by simp[intOf];omega⟩
  ·have o:k=lits.length:=by omega
   go_wp2
   go_ret
   subst o;rw[AL]at m;exact⟨g,q,rfl,m,z⟩
end
end Go.Proofs.YtpbfiffgcgnidaaGreatDoor
