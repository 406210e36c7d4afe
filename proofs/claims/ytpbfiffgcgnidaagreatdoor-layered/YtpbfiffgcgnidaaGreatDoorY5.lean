import Derived.Test.YtpbfiffgcgnidaaGreatDoorYal
import Derived.Deep.RegionLaw
import Derived.Deep.CutRange
import Derived.Test.YtpbfiffgcgnidaaGreatDoorY4
namespace Go.Proofs.YtpbfiffgcgnidaaGreatDoor
set_option maxRecDepth 100000
set_option maxHeartbeats 4000000
open Go.Proofs.Tryz
section
open Go.RowKit
theorem EO{P:Program}{p:Array Oper}{o:Oper}{a:Act}{w:World}{K:Act->World->Prop}{Q:Exit->Act->World->Prop}{E:Prop}
 (Z:o.guard=none)(s x:Operand)(t:TypeId)(Y:o.op=Op.call { callee:=Callee.builtin Builtin.append,args:=#[s,x],argTypes:=#[t,t] })
 (base:Nat)(e:TypeId)(i:TypeInfo)(z:Value)(size bytes:Nat)(ht:P.underlying t=some (.slice e))(R:P.info? e=some i)(N:i.zero=some z)
 (d:i.size=size)(J:i.bytes=bytes)(U:z.cells.size=size)(V:0<size)
 (v:Value)(n:Nat)(xs:List Value)(hs:a.eval s=v)(r:w.ownsRow base e size v n xs)
 (f:Addr)(m c:Nat)(q:List Value)(hx:a.eval x=.slice (some f) m c)(hm:0<m)(C:q.length=m*size)(b:∀j u,q[j]? =some u->w.cell? (f.add j)=some u)(h1:∀u∈q,u.oneCell'=true)
 (l:n+m<=maxLen)(y:(n+m)*bytes<=140737488355328)(k:base<=w.heap.size)
 (B:∀g cap w',w'.ownsRow base e size (.slice (some ⟨g,0,none⟩) (n+m) cap) (n+m) (xs++q)->w.grownBy w' v.ownBlock->K (a.put o.dst (.slice (some ⟨g,0,none⟩) (n+m) cap)) w'):
 if Region.wanted o (yielded p a.tmps)=true then Oper.wp P o a w K Q else E:=by
 have M:Region.wanted o (yielded p a.tmps)=true:=by simp[Region.wanted,Z]
 rw[Ai M];refine wp_append_own w s x t Y base e i z size bytes ht R N d J U V v n xs hs r f m c q hx C b h1 l y k ?_;intro v' w' h2 h3 _;rcases h2.2 with⟨G,hn⟩|⟨g,cap,cur,G,_⟩
 ·omega
 ·subst G;exact B g cap w' h2 h3
structure CH(B b:Nat)(w w':World):Prop where
 os:w'.os=w.os
 tape:w'.tape=w.tape
 output:w'.output=w.output
 size:w.heap.size<=w'.heap.size
 block:∀k,k<B->k≠b->w'.heap[k]? =w.heap[k]?
theorem CH.refl(B b:Nat)(w:World):CH B b w w:=⟨rfl,rfl,rfl,Ab _,fun _ _ _=>rfl⟩
theorem CH.trans{B b:Nat}{u v w:World}(h:CH B b u v)(k:CH B b v w):CH B b u w:=
 ⟨k.os.trans h.os,k.tape.trans h.tape,k.output.trans h.output,Ay h.size k.size,fun i q hn=>(k.block i q hn).trans (h.block i q hn)⟩
theorem CH.kept{B b:Nat}{u v w:World}(h:CH B b u v)(k:Bg b v w)(hB:B<=v.heap.size):CH B b u w:=
 h.trans ⟨k.os,k.tape,k.output,k.size,fun i hi hn=>k.block i (by omega) hn⟩
theorem CH.alloc{B b:Nat}{u w:World}(h:CH B b u w)(o:Obj)(q:B<=w.heap.size):CH B b u (w.alloc o):=h.kept (Bg.alloc b w o) q
theorem CH.drew{B b:Nat}{u w:World}(h:CH B b u w):CH B b u w.drew:=h.trans ⟨rfl,rfl,rfl,Ab _,fun _ _ _=>rfl⟩
theorem CH.set{B b:Nat}{u w:World}(h:CH B b u w)(p:Addr)(x:Value)(q:B<=p.block\/p.block=b):CH B b u (w.setCell p x):=
 h.trans ⟨rfl,rfl,rfl,by simp[World.setCell],fun k hk hn=>FD _ _ _ _ (by rcases q with q|q<;>omega)⟩
theorem CH.grown{B b:Nat}{u w w':World}{row:Option Nat}(h:CH B b u w)(q:w.grownBy w' row)(hB:B<=w.heap.size)(j:∀k,row=some k->B<=k):CH B b u w':=
 h.trans ⟨q.os,q.tape,q.output,q.size,fun k hk _=>q.block k (by omega) (fun e=>by have:=j k e.symm;omega)⟩
theorem Bg.to{B b:Nat}{w w':World}(h:Bg b w w')(q:B<=w.heap.size):CH B b w w':=(CH.refl B b w).kept h q
theorem CH.all{b:Nat}{w w':World}(h:CH w.heap.size b w w'):Bg b w w':=⟨h.os,h.tape,h.output,h.size,h.block⟩
theorem Av{w:World}{base:Nat}{e:TypeId}{size:Nat}{v:Value}{n:Nat}{xs:List Value}(h:w.ownsRow base e size v n xs){b:Nat}{cs:List Value}{t:TypeId}(hb:Aw w b cs t)(j:t≠e):v.ownBlock≠some b:=by
 rcases h.2 with⟨rfl,_⟩|⟨g,cap,cur,rfl,_,q,_⟩
 ·simp[Value.ownBlock]
 ·intro z;simp only[Value.ownBlock,Al]at z;subst z;unfold Aw at hb;rw[hb]at q;simp at q;exact j q.2
theorem Em{w:World}{base base':Nat}{e u:TypeId}{size q:Nat}{v v':Value}{n n':Nat}{xs k:List Value}(h:w.ownsRow base e size v n xs)(d:w.ownsRow base' u q v' n' k)(y:e≠u):v.ownBlock=none\/v.ownBlock≠v'.ownBlock:=by
 rcases h.2 with⟨rfl,_⟩|⟨g,cap,cur,rfl,_,j,_⟩
 ·exact .inl rfl
 ·rcases d.2 with⟨rfl,_⟩|⟨g',q0,q1,rfl,_,z,_⟩
  ·exact .inr (by simp[Value.ownBlock])
  ·refine .inr ?_;intro b;simp only[Value.ownBlock,Al]at b;subst b;rw[z]at j;simp at j;exact y j.2.symm
theorem D1{w w':World}{b base:Nat}{e:TypeId}{size:Nat}{v:Value}{n:Nat}{xs:List Value}(h:w.ownsRow base e size v n xs)(q:Bg b w w')(z:v.ownBlock≠some b):w'.ownsRow base e size v n xs:=by refine h.kept (row:=some b) ⟨q.os,q.tape,q.output,q.size,fun k j hn=>q.block k j (fun e=>hn (by rw[e]))⟩ (.inr z)
theorem AJ{w:World}{base:Nat}{e:TypeId}{size:Nat}{v:Value}{n:Nat}{xs:List Value}(h:w.ownsRow base e size v n xs)(p:Addr)(x:Value)(q:v.ownBlock≠some p.block):(w.setCell p x).ownsRow base e size v n xs:=
 D1 h (Bg.setCell (b:=p.block) w rfl x) q
theorem Aw.grown{w w':World}{b:Nat}{cs:List Value}{t:TypeId}{row:Option Nat}(h:Aw w b cs t)(z:w.grownBy w' row)(j:row≠some b):Aw w' b cs t:=by have q:=h.lt;unfold Aw at*;rw[z.block b q (fun e=>j e.symm),h]
end
section
attribute [local go_sem] AE As
open Go.RowKit
structure BQ where
 name:B8
 ts:List B8
 neg:Bool
structure Dg where
 mark:Nat
 np:Nat
 ps:List Nat
def BQ.cells(d:BQ):List Value:=Tk d.name d.ts d.neg
def Dg.cells(d:Dg):List Value:=CA d.mark d.np d.ps
def JS(s:ByteArray)(l:B8):BQ:=⟨(Cd s l).name,(Cd s l).ts,Jr l⟩
def Hd(s:ByteArray)(l:B8):Dg:=⟨Ku s l,(Cd s l).np,(Cd s l).ps⟩
structure nJ where
 ok:Bool
 lits:List BQ
 ah:List Dg
 rest:B8
def ER(s:ByteArray):Nat->List BQ->List Dg->B8->nJ
 |0,ls,ps,l=>⟨true,ls,ps,l⟩
 |f+1,ls,ps,l=>
  if(Cd s l).ok=false then⟨false,ls,ps,(Cd s l).rest⟩
  else if f=0 then⟨true,ls++[JS s l],ps++[Hd s l],(Cd s l).rest⟩
  else if AX (Cd s l).rest 44=false then⟨true,ls++[JS s l],ps++[Hd s l],AT (Cd s l).rest 44⟩
  else ER s f (ls++[JS s l]) (ps++[Hd s l]) (AT (Cd s l).rest 44)
def Dc(s:ByteArray)(ps:List Dg)(l:B8):nJ:=if(hd l==45)=false then⟨false,[],ps,l⟩ else ER s 4 [] ps l.tail
theorem gD:(prog.info? 186).map (fun i=>(i.zero,i.size,i.bytes))=some (some (.agg #[.string ⟨#[]⟩,.int .i64 0,.string ⟨#[]⟩,.string ⟨#[]⟩,.string ⟨#[]⟩,.bool false]),6,80):=by kernel_rfl
theorem aD:(prog.info? 141).map (fun i=>(i.zero,i.size,i.bytes))=some (some (.agg #[.int .i64 0,.int .i64 0,.int .i64 0,.int .i64 0,.int .i64 0]),5,40):=by kernel_rfl
theorem AS(w:World)(cs:List Value)(t:TypeId):∀j u,cs[j]? =some u->(w.alloc (.cells cs.toArray t)).cell? ((⟨w.heap.size,0,none⟩:Addr).add j)=some u:=by intro j u h;rw[Jg,B7];rw[(Aw.new w cs t).cell j];exact h
theorem Au{w:World}{base:Nat}{e:TypeId}{size:Nat}{v:Value}{n:Nat}{xs:List Value}(h:w.ownsRow base e size v n xs):∃ao cap,v=.slice ao n cap:=by
 rcases h.2 with⟨rfl,rfl⟩|⟨g,cap,cur,rfl,_⟩
 ·exact⟨none,0,rfl⟩
 ·exact⟨_,_,rfl⟩
theorem Rd.next{w:World}{b:Nat}{s:ByteArray}{l:B8}(h:Rd w b s l)(j:l≠[]):Rd (w.setCell ⟨b,1,none⟩ (.int .i64 ((Bn s l:Int)+1))) b s l.tail:=by
 obtain⟨z,q0,hd⟩:=h.at;have q:Bn s l<s.size:=by apply Bj;intro hn;rw[Ie s _ hn]at hd;exact j hd.symm
 refine⟨Bn s l+1,q,?_,z.to (by omega)⟩;have e:=DW s _ q;rw[hd]at e;exact(Bl List.tail e).symm
def XT(s:ByteArray)(l:B8):Int:=Ku s l
theorem Qi(s:ByteArray)(l:B8):J2 s l=.tuple #[.agg #[.string (Cd s l).nm,.int .i64 (Cd s l).cn,.string ((Cd s l).t 0),.string ((Cd s l).t 1),.string ((Cd s l).t 2),.bool (Jr l)],.agg #[.int .i64 (XT s l),.int .i64 (Cd s l).cw,.int .i64 ((Cd s l).p 0),.int .i64 ((Cd s l).p 1),.int .i64 ((Cd s l).p 2)],.bool (Cd s l).ok]:=rfl
theorem Vl(s:ByteArray)(l:B8):(JS s l).cells=[.string (Cd s l).nm,.int .i64 (Cd s l).cn,.string ((Cd s l).t 0),.string ((Cd s l).t 1),.string ((Cd s l).t 2),.bool (Jr l)]:=rfl
theorem SC(s:ByteArray)(l:B8):(Hd s l).cells=[.int .i64 (XT s l),.int .i64 (Cd s l).cw,.int .i64 ((Cd s l).p 0),.int .i64 ((Cd s l).p 1),.int .i64 ((Cd s l).p 2)]:=rfl
theorem Rd.grown{w w':World}{b:Nat}{s:ByteArray}{l:B8}{row:Option Nat}(h:Rd w b s l)(j:w.grownBy w' row)(q:row≠some b):Rd w' b s l:=by obtain⟨i,z,y,k⟩:=h;exact⟨i,z,y,Aw.grown k j q⟩
theorem Hp{w:World}{base:Nat}{e:TypeId}{size:Nat}{v:Value}{n:Nat}{xs:List Value}(h:w.ownsRow base e size v n xs){k:Nat}(hk:w.heap.size<=k):v.ownBlock≠some k:=by intro q;have:=(h.lt k q).2;omega
theorem A9{w:World}{base:Nat}{e:TypeId}{size:Nat}{v:Value}{n:Nat}{xs:List Value}(h:w.ownsRow base e size v n xs):∀k,v.ownBlock=some k->base<=k:=fun k q=>(h.lt k q).1
def MA(w:World)(b:Nat):Nat:=match w.cell? ⟨b,5,none⟩ with|some (.slice _ n _)=>n|_=>0
theorem WN{w:World}{q:Nat}{x0 j z y x4 x6:Value}{ao:Option Addr}{n cap:Nat}{t:TypeId}(h:Aw w q [x0,j,z,y,x4,.slice ao n cap,x6] t):MA w q=n:=by unfold MA;rw[h.cell 5];rfl
theorem cA(w:World)(b:Nat)(s:ByteArray)(l:B8)(a B:Nat)(n0 t0 t1 t2:ByteArray)(c:Int)(sv:Value)(q:List Dg)(hR:Rd w b s l)(hs:s.size<=281474976710656)
 (hC:Aw w a [.string n0,.int .i64 c,.string t0,.string t1,.string t2,.slice none 0 0,sv] 117)
 (hS:w.ownsRow B 141 5 sv q.length (q.flatMap Dg.cells))(h1:q.length=1)(hb:b<B)(hB:B<=a)(q9:B<=w.heap.size):
 Calls prog 90 #[.pointer (some ⟨b,0,none⟩),.pointer (some ⟨a,0,none⟩)] w fun e w'=>e=.returned (.bool (Dc s q l).ok)/\
  ∃bv j4,Aw w' a [.string n0,.int .i64 c,.string t0,.string t1,.string t2,bv,j4] 117/\
   w'.ownsRow B 186 6 bv (Dc s q l).lits.length ((Dc s q l).lits.flatMap BQ.cells)/\
   w'.ownsRow B 141 5 j4 (Dc s q l).ah.length ((Dc s q l).ah.flatMap Dg.cells)/\
   Rd w' b s (Dc s q l).rest/\CH B b w w':=by
 have q6:s.size<=maxLen:=by unfold maxLen;omega
 cases h45:(hd l==45)
 ·have HE:Hid (Dc s q l=⟨false,[],q,l⟩):=by show Dc s q l=_;simp[Dc,h45]
  have z9:(hd l != 45)=true:=by simp[bne,h45]
  go_enter func90,ntmps90;go_wp2_with (go_at_call 131;refine(JZ _ b s l (by exact hR) q6).mono ?_;rintro e w' ⟨rfl,n,rfl⟩)
  go_ret
  rw[HE.out];exact⟨rfl,.slice none 0 0,sv,hC,Ak _ _ _ _,hS,hR,((Bg.refl b w).bf _).to q9⟩
 ·have z9:(hd l != 45)=false:=by simp[bne,h45]
  have z4:l≠[]:=by intro e;rw[e]at h45;simp[hd]at h45
  obtain⟨l',HL⟩:∃l',Hid (l'=l.tail):=⟨_,rfl⟩;have HE:Hid (Dc s q l=ER s 4 [] q l'):=by show Dc s q l=_;simp[Dc,h45,HL.out]
  have Q:=hR.next z4;rw[<-HL.out]at Q;have q2:a≠b:=by omega
  have c1:=hR.c1;have f1:=hR.f1;have k5:Bn s l<=281474976710656:=by unfold Bn;omega
  go_enter func90,ntmps90;go_wp2_with (go_at_call 131;refine(JZ _ b s l (by exact hR) q6).mono ?_;rintro e w' ⟨rfl,n,rfl⟩);clear c1 f1
  go_loopw [] (fun wr=>∃(ls:List BQ) (ps:List Dg) (r:B8) (bv sv:Value),ls.length<4/\ps.length=ls.length+1/\Hid (ER s (4-ls.length) ls ps r=ER s 4 [] q l')/\Rd wr b s r/\
   Aw wr a [.string n0,.int .i64 c,.string t0,.string t1,.string t2,bv,sv] 117/\wr.ownsRow B 186 6 bv ls.length (ls.flatMap BQ.cells)/\wr.ownsRow B 141 5 sv ps.length (ps.flatMap Dg.cells)/\CH B b w wr) (fun wr=>4-MA wr a)
  case atStart=>
   refine⟨[],q,l',.slice none 0 0,sv,by decide,by simp[h1],rfl,Q,?_,Ak _ _ _ _,?_,?_⟩
   ·exact Aw.setOther (Aw.drewN hC _) ⟨b,1,none⟩ _ (by simpa using q2)
   ·exact AJ hS ⟨b,1,none⟩ _ (Av hS hR.at.1 (by decide))
   ·exact(((Bg.refl b w).set 1 _).bf _).to q9
  case round=>
   obtain⟨ls,ps,r,bv,k7,k3,j3,HX,M,q4,S,E,H⟩:=hrel;have j7:Hid (ps.length=ls.length+1):=j3;have k4:ps.length<=4:=by omega
   clear j3;obtain⟨ao,cap,rfl⟩:=Au S;obtain⟨po,N,rfl⟩:=Au E;have j5:Hid (MA wr a=ls.length):=WN q4;obtain⟨i1,z2,y2,y3,y4⟩:=Bc gD;obtain⟨i2,z3,y5,y6,y7⟩:=Bc aD;cases hok:(Cd s r).ok
   ·have HF:Hid (Dc s q l=⟨false,ls,ps,(Cd s r).rest⟩):=by show Dc s q l=_;rw[HE.out,<-HX.out,show 4-ls.length=(3-ls.length)+1 by omega];simp[ER,hok]
    go_wp2_with (go_at_call 136;refine(Qh _ b s r (by exact M) hs).mono ?_;rintro e w1 ⟨he,Q,i⟩;rw[Qi,hok]at he;subst he)
    go_ret
    rw[HF.out];have x:=H.kept i (by have:=H.size;omega);exact⟨rfl,_,_,((q4.kept i q2).alloc _).alloc _,((D1 S i (Av S M.at.1 (by decide))).alloc _).alloc _,((D1 E i (Av E M.at.1 (by decide))).alloc _).alloc _,(Q.alloc _).alloc _,(x.alloc _ (by have:=x.size;omega)).alloc _ (by have:=x.size;simp;omega)⟩
   ·obtain⟨A,HA⟩:∃A,Hid (A=Cd s r):=⟨_,rfl⟩;go_wp2_with (go_at_call 136;refine(Qh _ b s r (by exact M) hs).mono ?_;rintro e w1 ⟨he,Q,i⟩;rw[Qi,hok,<-HA.out]at he;subst he;rw[<-HA.out]at Q;have X:=q4.kept i q2;have C:=D1 S i (Av S M.at.1 (by decide));have q8:=D1 E i (Av E M.at.1 (by decide));have x:=H.kept i (by have:=H.size;omega);have z1:a<w1.heap.size:=X.lt;have k2:b<w1.heap.size:=Q.lt;obtain⟨c0,c1,c2,c3,c4,c5,c6⟩:=X.c7;have fC:=X.frozen);obtain⟨cs,HC⟩:∃cs,Hid (cs=[Value.string A.nm,.int .i64 A.cn,.string (A.t 0),.string (A.t 1),.string (A.t 2),.bool (Jr r)]):=⟨_,rfl⟩
    have R:∀u∈cs,u.oneCell'=true:=by
     rw[HC.out];intro u hu;simp at hu;rcases hu with rfl|rfl|rfl|rfl|rfl|rfl<;>rfl
    have K:cs.length=1*6:=by rw[HC.out];rfl
    have P:∀o1 o2 O,((((w1.alloc o1).alloc o2).alloc O).drew).ownsRow B 186 6 (.slice ao ls.length cap) ls.length (ls.flatMap BQ.cells):=fun o1 o2 O=>((C.alloc o1).alloc o2).alloc O
    have o:∀o1 o2,∀j u,cs[j]? =some u->((((w1.alloc o1).alloc o2).alloc (.cells #[Value.string A.nm,.int .i64 A.cn,.string (A.t 0),.string (A.t 1),.string (A.t 2),.bool (Jr r)] 186)).drew).cell? ((⟨w1.heap.size+1+1,0,none⟩:Addr).add j)=some u:=by
     intro o1 o2 j u h;rw[HC.out]at h;have h':=AS ((w1.alloc o1).alloc o2) _ 186 j u h;have e:((w1.alloc o1).alloc o2).heap.size=w1.heap.size+1+1:=by simp
     rw[e]at h';exact h'
    have y8:a<w1.heap.size+1:=by omega
    have y9:a<w1.heap.size+1+1:=by omega
    have z8:ls.length+1<=maxLen:=by unfold maxLen;omega
    have z7:(ls.length+1)*80<=140737488355328:=by omega
    have L:∀o1 o2 O,B<=((((w1.alloc o1).alloc o2).alloc O).drew).heap.size:=by intro o1 o2 O;have:=x.size;simp;omega
    have j6:Hid (ls.flatMap BQ.cells++cs=(ls++[JS s r]).flatMap BQ.cells):=by show ls.flatMap BQ.cells++cs=(ls++[JS s r]).flatMap BQ.cells;rw[BG,HC.out];simp[Vl,<-HA.out]
    have V:=Av C X (by decide);have U:=Av C Q.at.1 (by decide);have q7:=Hp C (k:=w1.heap.size+1) (by omega);have G:=Em q8 C (by decide);have q1:=A9 C;have j9:B<=w1.heap.size:=by have:=x.size;omega
    go_cut [] from 18 to 59 (fun I=>∃g f,Aw I a [.string n0,.int .i64 c,.string t0,.string t1,.string t2,.slice (some ⟨g,0,none⟩) (ls.length+1) f,.slice po ps.length N] 117/\I.ownsRow B 186 6 (.slice (some ⟨g,0,none⟩) (ls.length+1) f) (ls.length+1) (ls.flatMap BQ.cells++cs)/\
     I.ownsRow B 141 5 (.slice po ps.length N) ps.length (ps.flatMap Dg.cells)/\Aw I (w1.heap.size+1) [.int .i64 (XT s r),.int .i64 A.cw,.int .i64 (A.p 0),.int .i64 (A.p 1),.int .i64 (A.p 2)] 141/\Rd I b s A.rest/\CH B b w I)
    case first=>
     go_region_law (refine EO rfl (.tmp 31) (.tmp 33) 84 rfl B 186 i1 _ 6 80 underlying84 z2 y2 y3 y4 rfl (by decide) (.slice ao ls.length cap) ls.length (ls.flatMap BQ.cells) (by simp[Act.eval]) (P _ _ _) ⟨w1.heap.size+1+1,0,none⟩ 1 1 cs (by simp[Act.eval]) (by decide) K (o _ _) R z8 z7 (L _ _ _) ?_;intro g f w2 d q3;have z:=(((X.alloc _).alloc _).alloc _).drew.grown q3 V;obtain⟨d0,d1,d2,d3,d4,d5,d6⟩:=z.c7;have k0:=z.frozen;have m:=(((Q.alloc _).alloc _).alloc _).drew.grown q3 U;have W:=((C9 w1 _ [.int .i64 (XT s r),.int .i64 A.cw,.int .i64 (A.p 0),.int .i64 (A.p 1),.int .i64 (A.p 2)] 141).alloc _).drew.grown q3 q7;have v:=(((q8.alloc _).alloc _).alloc _).drew.kept q3 G;have y:=((((x.alloc _ j9).alloc _ (by simp;omega)).alloc _ (by simp;omega)).drew).grown q3 (by simp;omega) q1)
     all_goals go_wp2_with fail
     all_goals go_meet
     all_goals
      refine⟨g,f,z.setCell 5 _,AJ d ⟨a,5,none⟩ _ (Av d z (by decide)),AJ v ⟨a,5,none⟩ _ (Av v z (by decide)),W.setOther ⟨a,5,none⟩ _ (by simp only[ne_eq];omega),m.setOther ⟨a,5,none⟩ _ (by simp only[ne_eq];omega),y.set ⟨a,5,none⟩ _ (.inl hB)⟩
    case rest=>
     clear c0 c1 c2 c3 c4 c5 c6 fC P o L X C q8 x Q V U q7 G q1 R K q4 S E H M i;obtain⟨g,f,z,d,v,W,m,y⟩:=hcut;obtain⟨c0,c1,c2,c3,c4,c5,c6⟩:=z.c7;have fC:=z.frozen;obtain⟨p0,p1,p2,p3,p4⟩:=W.c5;have z1:a<wc.heap.size:=z.lt;have k6:w1.heap.size+1<wc.heap.size:=W.lt;obtain⟨qs,HQ⟩:∃qs,Hid (qs=[Value.int .i64 (XT s r),.int .i64 A.cw,.int .i64 (A.p 0),.int .i64 (A.p 1),.int .i64 (A.p 2)]):=⟨_,rfl⟩
     have R:∀u∈qs,u.oneCell'=true:=by
      rw[HQ.out];intro u hu;simp at hu;rcases hu with rfl|rfl|rfl|rfl|rfl<;>rfl
     have K:qs.length=1*5:=by rw[HQ.out];rfl
     have P:∀O,((wc.alloc O).drew).ownsRow B 141 5 (.slice po ps.length N) ps.length (ps.flatMap Dg.cells):=fun O=>v.alloc O;have o:∀j u,qs[j]? =some u->((wc.alloc (.cells #[Value.int .i64 (XT s r),.int .i64 A.cw,.int .i64 (A.p 0),.int .i64 (A.p 1),.int .i64 (A.p 2)] 141)).drew).cell? ((⟨wc.heap.size,0,none⟩:Addr).add j)=some u:=by intro j u h;rw[HQ.out]at h;exact AS wc _ 141 j u h
     have y1:ps.length+1<=maxLen:=by unfold maxLen;omega
     have y0:(ps.length+1)*40<=140737488355328:=by omega
     have z0:B<=wc.heap.size:=by have:=y.size;omega
     have L:∀O,B<=((wc.alloc O).drew).heap.size:=by intro O;simp;omega
     have j8:Hid (ps.flatMap Dg.cells++qs=(ps++[Hd s r]).flatMap Dg.cells):=by show ps.flatMap Dg.cells++qs=(ps++[Hd s r]).flatMap Dg.cells;rw[BG,HQ.out];simp[SC,<-HA.out]
     have V:=Av v z (by decide);have U:=Av v m.at.1 (by decide);have G:=Em d v (by decide);have q1:=A9 v;go_wp2_with fail
     go_cut [] from 18 to 59 (fun I=>∃g2 Z,Aw I a [.string n0,.int .i64 c,.string t0,.string t1,.string t2,.slice (some ⟨g,0,none⟩) (ls.length+1) f,.slice (some ⟨g2,0,none⟩) (ps.length+1) Z] 117/\I.ownsRow B 186 6 (.slice (some ⟨g,0,none⟩) (ls.length+1) f) (ls.length+1) (ls.flatMap BQ.cells++cs)/\
      I.ownsRow B 141 5 (.slice (some ⟨g2,0,none⟩) (ps.length+1) Z) (ps.length+1) (ps.flatMap Dg.cells++qs)/\Rd I b s A.rest/\CH B b w I)
     case first=>
      go_region_law (refine EO rfl (.tmp 42) (.tmp 44) 115 rfl B 141 i2 _ 5 40 underlying115 z3 y5 y6 y7 rfl (by decide) (.slice po ps.length N) ps.length (ps.flatMap Dg.cells) (by simp[Act.eval]) (P _) ⟨wc.heap.size,0,none⟩ 1 1 qs (by simp[Act.eval]) (by decide) K o R y1 y0 (L _) ?_;intro g2 Z w3 j2 q5;have Y:=(z.alloc _).drew.grown q5 V;obtain⟨d0,d1,d2,d3,d4,d5,d6⟩:=Y.c7;have k1:=Y.frozen;have q0:=(m.alloc _).drew.grown q5 U;have j1:=(d.alloc _).drew.kept q5 G;have j0:=((y.alloc _ z0).drew).grown q5 (by simp;omega) q1)
      all_goals go_wp2_with fail
      all_goals go_meet
      all_goals
       exact⟨g2,Z,Y.setCell 6 _,AJ j1 ⟨a,6,none⟩ _ (Av j1 Y (by decide)),AJ j2 ⟨a,6,none⟩ _ (Av j2 Y (by decide)),q0.setOther ⟨a,6,none⟩ _ (by simp only[ne_eq];omega),j0.set ⟨a,6,none⟩ _ (.inl hB)⟩
     case rest=>
      clear c0 c1 c2 c3 c4 c5 c6 fC p0 p1 p2 p3 p4 P o L z d v W m y V U G q1 R K;obtain⟨g2,Z,z,d,v,m,y⟩:=hcut;rw[j6.out]at d;rw[j8.out]at v;obtain⟨c0,c1,c2,c3,c4,c5,c6⟩:=z.c7;by_cases h3:ls.length=3
      ·have hq:(((ls.length:Int)+1)==4)=true:=by rw[Co];omega
       have HF:Hid (Dc s q l=⟨true,ls++[JS s r],ps++[Hd s r],(Cd s r).rest⟩):=by show Dc s q l=_;rw[HE.out,<-HX.out,h3];simp[ER,hok]
       clear h3;go_wp2
       go_ret
       rw[HF.out];exact⟨rfl,_,_,z,by simpa using d,by simpa using v,by rw[<-HA.out];exact m,y⟩
      ·have hq:(((ls.length:Int)+1)==4)=false:=by rw[Az];omega
       have HG:Hid (4-ls.length=(3-ls.length)+1/\3-ls.length≠0):=⟨by omega,by omega⟩;have z5:ls.length+1<4:=by omega
       clear h3;cases ht:AX A.rest 44
       ·have HF:Hid (Dc s q l=⟨true,ls++[JS s r],ps++[Hd s r],AT A.rest 44⟩):=by show Dc s q l=_;rw[HA.out]at ht;rw[HE.out,<-HX.out,HG.out.1];simp[ER,hok,HG.out.2,ht,HA.out]
        go_wp2_with (go_at_call 89;refine(FH _ b s A.rest 44 (by exact m) q6 (by omega)).mono ?_;rintro e w3 ⟨rfl,q0,J⟩)
        go_ret
        rw[HF.out];exact⟨rfl,_,_,z.kept J q2,by simpa using D1 d J (Av d m.at.1 (by decide)),by simpa using D1 v J (Av v m.at.1 (by decide)),q0,y.kept J (by have:=y.size;omega)⟩
       ·have HF:Hid (ER s (4-(ls++[JS s r]).length) (ls++[JS s r]) (ps++[Hd s r]) (AT A.rest 44)=ER s 4 [] q l'):=by show ER s (4-(ls++[JS s r]).length) (ls++[JS s r]) (ps++[Hd s r]) (AT A.rest 44)=_;rw[HA.out]at ht;rw[<-HX.out,HG.out.1,Am,List.length_singleton,show 4-(ls.length+1)=3-ls.length by omega];simp[ER,hok,HG.out.2,ht,HA.out]
        go_wp2_with (go_at_call 89;refine(FH _ b s A.rest 44 (by exact m) q6 (by omega)).mono ?_;rintro e w3 ⟨rfl,q0,J⟩);have Y:=z.kept J q2;refine⟨⟨ls++[JS s r],ps++[Hd s r],AT A.rest 44,_,_,by simpa using z5,by simp[j7.out],HF,q0,Y,by simpa using D1 d J (Av d m.at.1 (by decide)),by simpa using D1 v J (Av v m.at.1 (by decide)),y.kept J (by have:=y.size;omega)⟩,?_⟩;rw[j5.out,WN Y];omega
structure lW where
 ok:Bool
 name:B8
 ts:List B8
 lits:List BQ
 ah:List Dg
 rest:B8
def Ce(s:ByteArray)(l:B8):Dg:=⟨0,(Bf s l).np,(Bf s l).ps⟩
def BH(s:ByteArray)(l:B8):lW:=
 if(Bf s l).ok=false then⟨false,[],[],[],[],(Bf s l).rest⟩
 else if AX (Bf s l).rest 58=false then⟨AX (AT (Bf s l).rest 58) 46,(Bf s l).name,(Bf s l).ts,[],[Ce s l],AT (AT (Bf s l).rest 58) 46⟩
 else if(Dc s [Ce s l] (AT (Bf s l).rest 58)).ok=false then⟨false,[],[],[],[],(Dc s [Ce s l] (AT (Bf s l).rest 58)).rest⟩
 else⟨AX (Dc s [Ce s l] (AT (Bf s l).rest 58)).rest 46,(Bf s l).name,(Bf s l).ts,(Dc s [Ce s l] (AT (Bf s l).rest 58)).lits,(Dc s [Ce s l] (AT (Bf s l).rest 58)).ah,AT (Dc s [Ce s l] (AT (Bf s l).rest 58)).rest 46⟩
def Jb(w w':World)(r:lW)(v:Value):Prop:=
 ∃(n0 t0 t1 t2:ByteArray) (c:Int) (ao j:Option Addr) (n m cap q:Nat),v=.tuple #[.agg #[.string n0,.int .i64 c,.string t0,.string t1,.string t2,.slice ao n cap,.slice j m q],.bool r.ok]/\
  (r.ok=true->[Value.string n0,.int .i64 c,.string t0,.string t1,.string t2]=Bp r.name r.ts/\n=r.lits.length/\m=r.ah.length/\
    w'.ownsRow w.heap.size 186 6 (.slice ao n cap) n (r.lits.flatMap BQ.cells)/\w'.ownsRow w.heap.size 141 5 (.slice j m q) m (r.ah.flatMap Dg.cells))
theorem BS{w:World}{base base':Nat}{e:TypeId}{size:Nat}{v:Value}{n:Nat}{xs:List Value}(h:w.ownsRow base e size v n xs)(hb:base'<=base):w.ownsRow base' e size v n xs:=by
 refine⟨h.1,?_⟩;rcases h.2 with h2|⟨g,cap,cur,q,hg,r⟩
 ·exact .inl h2
 ·exact .inr ⟨g,cap,cur,q,by omega,r⟩
theorem Rd.dj{w:World}{b:Nat}{s:ByteArray}{l:B8}(h:Rd w b s l)(A:Nat)(q:b≠A)(x0 j z y x4 x5 x6:Value):
 Rd (((((((w.setCell ⟨A,0,none⟩ x0).setCell ⟨A,1,none⟩ j).setCell ⟨A,2,none⟩ z).setCell ⟨A,3,none⟩ y).setCell ⟨A,4,none⟩ x4).setCell ⟨A,5,none⟩ x5).setCell ⟨A,6,none⟩ x6) b s l:=
 (h.di A q x0 j z y x4 x5).setOther ⟨A,6,none⟩ x6 q
theorem Bg.dj{b:Nat}{u w:World}(h:Bg b u w)(A:Nat)(q:u.heap.size<=A)(x0 j z y x4 x5 x6:Value):
 Bg b u (((((((w.setCell ⟨A,0,none⟩ x0).setCell ⟨A,1,none⟩ j).setCell ⟨A,2,none⟩ z).setCell ⟨A,3,none⟩ y).setCell ⟨A,4,none⟩ x4).setCell ⟨A,5,none⟩ x5).setCell ⟨A,6,none⟩ x6):=
 (h.di A q x0 j z y x4 x5).ba (p:=⟨A,6,none⟩) q x6
theorem N2{w:World}{base:Nat}{e:TypeId}{size:Nat}{v:Value}{n:Nat}{xs:List Value}(h:w.ownsRow base e size v n xs)(A:Nat)(q:v.ownBlock≠some A)(x0 j z y x4 x5 x6:Value):
 (((((((w.setCell ⟨A,0,none⟩ x0).setCell ⟨A,1,none⟩ j).setCell ⟨A,2,none⟩ z).setCell ⟨A,3,none⟩ y).setCell ⟨A,4,none⟩ x4).setCell ⟨A,5,none⟩ x5).setCell ⟨A,6,none⟩ x6).ownsRow base e size v n xs:=
 AJ (AJ (AJ (AJ (AJ (AJ (AJ h ⟨A,0,none⟩ x0 q) ⟨A,1,none⟩ j q) ⟨A,2,none⟩ z q) ⟨A,3,none⟩ y q) ⟨A,4,none⟩ x4 q) ⟨A,5,none⟩ x5 q) ⟨A,6,none⟩ x6 q
theorem Aw.ej{w w':World}{k B c:Nat}{cs:List Value}{t:TypeId}(h:Aw w k cs t)(j:CH B c w w')(q:k<B)(hn:k≠c):Aw w' k cs t:=by unfold Aw at*;rw[j.block k q hn,h]
theorem CH.dx{B b:Nat}{u v w:World}(h:Bg b u v)(k:CH B b v w)(hB:u.heap.size<=B):Bg b u w:=
 ⟨k.os.trans h.os,k.tape.trans h.tape,k.output.trans h.output,Ay h.size k.size,fun i q hn=>(k.block i (by omega) hn).trans (h.block i q hn)⟩
def zP:List Value:=[.string ⟨#[]⟩,.int .i64 0,.string ⟨#[]⟩,.string ⟨#[]⟩,.string ⟨#[]⟩,.slice none 0 0,.slice none 0 0]
theorem Yo(w:World)(b:Nat)(s:ByteArray)(l:B8)(hR:Rd w b s l)(hs:s.size<=281474976710656)(hok:(Bf s l).ok=false):
 Calls prog 57 #[.pointer (some ⟨b,0,none⟩)] w fun e w'=>∃v,e=.returned v/\Jb w w' (BH s l) v/\Rd w' b s (BH s l).rest/\Bg b w w':=by
 have q0:=hR.lt;have d:Hid (BH s l=⟨false,[],[],[],[],(Bf s l).rest⟩):=by show BH s l=_;simp[BH,hok]
 obtain⟨A,y⟩:∃A,Hid (A=Bf s l):=⟨_,rfl⟩;rw[<-y.out]at hok;go_enter func57,ntmps57;go_wp2_with (go_at_call 88;refine(JA _ b s l (by exact hR.alloc _) hs).mono ?_;rintro e w1 ⟨k,z,j⟩;rw[<-y.out]at k z;rw[IP.cj,hok]at k;subst k;have q:=(Aw.new w zP 117).kept j (by omega);obtain⟨a0,t,r,p,c,m,n⟩:=q.c7;have fP:=q.frozen;have u:w.heap.size<w1.heap.size:=q.lt;have g:w.heap.size<w1.heap.size+1:=(by omega));rw[d.out,<-y.out]
 have hv:Jb w w1 ⟨false,[],[],[],[],A.rest⟩ (.tuple #[.agg #[.string ⟨#[]⟩,.int .i64 0,.string ⟨#[]⟩,.string ⟨#[]⟩,.string ⟨#[]⟩,.slice none 0 0,.slice none 0 0],.bool false]):=
  ⟨_,_,_,_,_,_,_,_,_,_,_,rfl,by simp⟩
 exact Aq (v:=.tuple #[.agg #[.string ⟨#[]⟩,.int .i64 0,.string ⟨#[]⟩,.string ⟨#[]⟩,.string ⟨#[]⟩,.slice none 0 0,.slice none 0 0],.bool false]) (by simp[results,results57,go_sem,a0,t,r,p,c,m,n,u,g]) rfl ⟨_,rfl,⟨_,_,_,_,_,_,_,_,_,_,_,rfl,by simp⟩,((z.dj _ (by omega) _ _ _ _ _ _ _).alloc _).alloc _,((((((Bg.refl b w).aj _).trans j).dj _ (by omega) _ _ _ _ _ _ _).aj _).aj _)⟩
theorem N6(w:World)(q j z:Obj)(cs:List Value)(t:TypeId):Aw ((((w.alloc q).alloc j).alloc z).alloc (.cells cs.toArray t)) (w.heap.size+1+1+1) cs t:=by
 have h:=Aw.new (((w.alloc q).alloc j).alloc z) cs t;have e:(((w.alloc q).alloc j).alloc z).heap.size=w.heap.size+1+1+1:=by simp
 rwa [e]at h
theorem Mm(w:World)(q j:Obj)(cs:List Value)(t:TypeId)(z:Obj):Aw ((((w.alloc q).alloc j).alloc (.cells cs.toArray t)).alloc z) (w.heap.size+1+1) cs t:=by
 have h:=Aw.new ((w.alloc q).alloc j) cs t;have e:((w.alloc q).alloc j).heap.size=w.heap.size+1+1:=by simp
 rw[e]at h;exact h.alloc z
theorem Nt{w:World}{g:Nat}{cs:List Value}{e:TypeId}{size base:Nat}(h:Aw w g cs e)(hl:cs.length=size)(hb:base<=g):w.ownsRow base e size (.slice (some ⟨g,0,none⟩) 1 1) 1 cs:=by refine⟨by omega,.inr ⟨g,1,cs.toArray,rfl,hb,h,Ab _,by unfold maxLen;omega,by simp;omega,?_⟩⟩;simp only[Nat.one_mul];exact C3 (by omega)
theorem T2(w:World)(b:Nat)(s:ByteArray)(l:B8)(hR:Rd w b s l)(hs:s.size<=281474976710656)(hok:(Bf s l).ok=true)(g:AX (Bf s l).rest 58=false):
 Calls prog 57 #[.pointer (some ⟨b,0,none⟩)] w fun e w'=>∃v,e=.returned v/\Jb w w' (BH s l) v/\Rd w' b s (BH s l).rest/\Bg b w w':=by
 have m:s.size<=maxLen:=by unfold maxLen;omega
 have q0:=hR.lt;have V:Hid (BH s l=⟨AX (AT (Bf s l).rest 58) 46,(Bf s l).name,(Bf s l).ts,[],[Ce s l],AT (AT (Bf s l).rest 58) 46⟩):=by show BH s l=_;simp[BH,hok,g]
 obtain⟨A,n⟩:∃A,Hid (A=Bf s l):=⟨_,rfl⟩;have x:Hid ((Ce s l).cells=[.int .i64 0,.int .i64 A.cw,.int .i64 (A.p 0),.int .i64 (A.p 1),.int .i64 (A.p 2)]):=by rw[n.out];rfl
 rw[<-n.out]at hok g;obtain⟨q,K⟩:∃q,Hid (q=AT A.rest 58):=⟨_,rfl⟩;go_enter func57,ntmps57;go_wp2_with (first|(go_at_call 88;refine(JA _ b s l (by exact hR.alloc _) hs).mono ?_;rintro e w1 ⟨Y,r,k⟩;rw[<-n.out]at Y r;rw[IP.cj,hok]at Y;subst Y;have u:=(Aw.new w zP 117).kept k (by omega);have q1:w.heap.size<w1.heap.size:=u.lt)|(go_at_call 89;refine(FH _ b s A.rest 58 (by exact(((r.alloc _).alloc _).alloc _).alloc _) m (by omega)).mono ?_;rintro e w2 ⟨rfl,c,j⟩;rw[<-K.out]at c;have i:=((((u.alloc _).alloc _).alloc _).alloc _).kept j (by omega);have y:=(N6 w1 _ _ _ [.string A.nm,.int .i64 A.cn,.string (A.t 0),.string (A.t 1),.string (A.t 2),.slice none 0 0,.slice (some ⟨w1.heap.size+1+1,0,none⟩) 1 1] 117).kept j (by omega);have J:=(Mm w1 _ _ [.int .i64 0,.int .i64 A.cw,.int .i64 (A.p 0),.int .i64 (A.p 1),.int .i64 (A.p 2)] 141 _).kept j (by omega);have q2:w1.heap.size+1+1+1<w2.heap.size:=y.lt;obtain⟨c0,c1,c2,c3,c4,c5,c6⟩:=y.c7;have f:Hid (Bg b w w2):=(((((((Bg.refl b w).aj _).trans k).aj _).aj _).aj _).aj _).trans j;clear k j u))
 go_region_with (go_at_call 89;refine(FH _ b s q 46 (by exact c.drew) m (by omega)).mono ?_;rintro e w3 ⟨rfl,Q,z⟩;have d:=i.drew.kept z (by omega);have o:=y.drew.kept z (by omega);have Z:=J.drew.kept z (by omega);obtain⟨d0,d1,d2,d3,d4,d5,d6⟩:=o.c7;obtain⟨a0,U,G,B,R,P,C⟩:=d.c7;have fP:=d.frozen;have a:Hid (Bg b w w3):=f.out.bx.trans z)
 all_goals go_wp2
 all_goals rw[V.out,<-n.out,<-K.out]
 all_goals exact Aq (v:=.tuple #[.agg #[.string A.nm,.int .i64 A.cn,.string (A.t 0),.string (A.t 1),.string (A.t 2),.slice none 0 0,.slice (some ⟨w1.heap.size+1+1,0,none⟩) 1 1],.bool (AX q 46)]) (by simp[results,results57,go_sem,a0,U,G,B,R,P,C]) rfl ⟨_,rfl,⟨A.nm,A.t 0,A.t 1,A.t 2,A.cn,none,some ⟨w1.heap.size+1+1,0,none⟩,0,1,0,1,rfl,fun _=>⟨rfl,rfl,rfl,Ak _ _ _ _,by rw[Ca,x.out];exact N2 (Nt Z rfl (by omega)) _ (by simp only[Value.ownBlock,ne_eq,Al];omega) _ _ _ _ _ _ _⟩⟩,Q.dj _ (by omega) _ _ _ _ _ _ _,a.out.dj _ (by omega) _ _ _ _ _ _ _⟩
theorem VM(w:World)(b:Nat)(s:ByteArray)(l:B8)(hR:Rd w b s l)(hs:s.size<=281474976710656)(hok:(Bf s l).ok=true)(d:AX (Bf s l).rest 58=true)
 (z:(Dc s [Ce s l] (AT (Bf s l).rest 58)).ok=false):
 Calls prog 57 #[.pointer (some ⟨b,0,none⟩)] w fun e w'=>∃v,e=.returned v/\Jb w w' (BH s l) v/\Rd w' b s (BH s l).rest/\Bg b w w':=by
 have V:s.size<=maxLen:=by unfold maxLen;omega
 have q1:=hR.lt;have U:Hid (BH s l=⟨false,[],[],[],[],(Dc s [Ce s l] (AT (Bf s l).rest 58)).rest⟩):=by show BH s l=_;simp[BH,hok,d,z]
 obtain⟨A,f⟩:∃A,Hid (A=Bf s l):=⟨_,rfl⟩;have a:Hid ((Ce s l).cells=[.int .i64 0,.int .i64 A.cw,.int .i64 (A.p 0),.int .i64 (A.p 1),.int .i64 (A.p 2)]):=by rw[f.out];rfl
 rw[<-f.out]at hok d z;obtain⟨q,Q⟩:∃q,Hid (q=AT A.rest 58):=⟨_,rfl⟩;rw[<-Q.out]at z;obtain⟨D,HD⟩:∃D,Hid (D=Dc s [Ce s l] q):=⟨_,rfl⟩;rw[<-HD.out]at z;go_enter func57,ntmps57;go_wp2_with (first|(go_at_call 88;refine(JA _ b s l (by exact hR.alloc _) hs).mono ?_;rintro e w1 ⟨g,m,k⟩;rw[<-f.out]at g m;rw[IP.cj,hok]at g;subst g;have u:=(Aw.new w zP 117).kept k (by omega);have q2:w.heap.size<w1.heap.size:=u.lt)|(go_at_call 89;refine(FH _ b s A.rest 58 (by exact(((m.alloc _).alloc _).alloc _).alloc _) V (by omega)).mono ?_;rintro e w2 ⟨rfl,n,j⟩;rw[<-Q.out]at n;have Z:=((((u.alloc _).alloc _).alloc _).alloc _).kept j (by omega);have r:=(N6 w1 _ _ _ [.string A.nm,.int .i64 A.cn,.string (A.t 0),.string (A.t 1),.string (A.t 2),.slice none 0 0,.slice (some ⟨w1.heap.size+1+1,0,none⟩) 1 1] 117).kept j (by omega);have K:=(Mm w1 _ _ [.int .i64 0,.int .i64 A.cw,.int .i64 (A.p 0),.int .i64 (A.p 1),.int .i64 (A.p 2)] 141 _).kept j (by omega);have q3:w1.heap.size+1+1+1<w2.heap.size:=r.lt;have o:Hid (Bg b w w2):=(((((((Bg.refl b w).aj _).trans k).aj _).aj _).aj _).aj _).trans j;clear k j u)|(go_at_call 90;refine(cA _ b s q (w1.heap.size+1+1+1) (w1.heap.size+1+1) _ _ _ _ _ (.slice (some ⟨w1.heap.size+1+1,0,none⟩) 1 1) [Ce s l] (by exact n) hs r (by rw[Ca,a.out];exact Nt K rfl (Ab _)) rfl (by omega) (by omega) (by omega)).mono ?_;rintro e w3 ⟨g,bv,sv,q0,J,Y,x,y⟩;rw[<-HD.out]at g x J Y;rw[z]at g;subst g;have c:=Z.ej y (by omega) (by omega);obtain⟨a0,G,B,R,P,C,M⟩:=c.c7;have fP:=c.frozen;have i:Hid (Bg b w w3):=CH.dx o.out y (by omega)));rw[U.out,<-f.out,<-Q.out,<-HD.out];exact Aq (v:=.tuple #[.agg #[.string ⟨#[]⟩,.int .i64 0,.string ⟨#[]⟩,.string ⟨#[]⟩,.string ⟨#[]⟩,.slice none 0 0,.slice none 0 0],.bool false]) (by simp[results,results57,go_sem,a0,G,B,R,P,C,M]) rfl ⟨_,rfl,⟨_,_,_,_,_,_,_,_,_,_,_,rfl,by simp⟩,x.dj _ (by omega) _ _ _ _ _ _ _,i.out.dj _ (by omega) _ _ _ _ _ _ _⟩
theorem TY(w:World)(b:Nat)(s:ByteArray)(l:B8)(hR:Rd w b s l)(hs:s.size<=281474976710656)(hok:(Bf s l).ok=true)(i:AX (Bf s l).rest 58=true)
 (u:(Dc s [Ce s l] (AT (Bf s l).rest 58)).ok=true):
 Calls prog 57 #[.pointer (some ⟨b,0,none⟩)] w fun e w'=>∃v,e=.returned v/\Jb w w' (BH s l) v/\Rd w' b s (BH s l).rest/\Bg b w w':=by
 have V:s.size<=maxLen:=by unfold maxLen;omega
 have q0:=hR.lt;have I:Hid (BH s l=⟨AX (Dc s [Ce s l] (AT (Bf s l).rest 58)).rest 46,(Bf s l).name,(Bf s l).ts,(Dc s [Ce s l] (AT (Bf s l).rest 58)).lits,(Dc s [Ce s l] (AT (Bf s l).rest 58)).ah,AT (Dc s [Ce s l] (AT (Bf s l).rest 58)).rest 46⟩):=by show BH s l=_;simp[BH,hok,i,u]
 obtain⟨A,U⟩:∃A,Hid (A=Bf s l):=⟨_,rfl⟩;have B:Hid ((Ce s l).cells=[.int .i64 0,.int .i64 A.cw,.int .i64 (A.p 0),.int .i64 (A.p 1),.int .i64 (A.p 2)]):=by rw[U.out];rfl
 rw[<-U.out]at hok i u;obtain⟨q,N⟩:∃q,Hid (q=AT A.rest 58):=⟨_,rfl⟩;rw[<-N.out]at u;obtain⟨D,HD⟩:∃D,Hid (D=Dc s [Ce s l] q):=⟨_,rfl⟩;rw[<-HD.out]at u;go_enter func57,ntmps57;go_wp2_with (first|(go_at_call 88;refine(JA _ b s l (by exact hR.alloc _) hs).mono ?_;rintro e w1 ⟨o,f,n⟩;rw[<-U.out]at o f;rw[IP.cj,hok]at o;subst o;have x:=(Aw.new w zP 117).kept n (by omega);have q1:w.heap.size<w1.heap.size:=x.lt)|(go_at_call 89;refine(FH _ b s A.rest 58 (by exact(((f.alloc _).alloc _).alloc _).alloc _) V (by omega)).mono ?_;rintro e w2 ⟨rfl,a,z⟩;rw[<-N.out]at a;have Z:=((((x.alloc _).alloc _).alloc _).alloc _).kept z (by omega);have m:=(N6 w1 _ _ _ [.string A.nm,.int .i64 A.cn,.string (A.t 0),.string (A.t 1),.string (A.t 2),.slice none 0 0,.slice (some ⟨w1.heap.size+1+1,0,none⟩) 1 1] 117).kept z (by omega);have K:=(Mm w1 _ _ [.int .i64 0,.int .i64 A.cw,.int .i64 (A.p 0),.int .i64 (A.p 1),.int .i64 (A.p 2)] 141 _).kept z (by omega);have q2:w1.heap.size+1+1+1<w2.heap.size:=m.lt;have R:Hid (Bg b w w2):=(((((((Bg.refl b w).aj _).trans n).aj _).aj _).aj _).aj _).trans z;clear n z x)|(go_at_call 90;refine(cA _ b s q (w1.heap.size+1+1+1) (w1.heap.size+1+1) _ _ _ _ _ (.slice (some ⟨w1.heap.size+1+1,0,none⟩) 1 1) [Ce s l] (by exact a) hs m (by rw[Ca,B.out];exact Nt K rfl (Ab _)) rfl (by omega) (by omega) (by omega)).mono ?_;rintro e w3 ⟨o,bv,sv,Q,g,c,r,k⟩;rw[<-HD.out]at o r g c;rw[u]at o;subst o;have E:=Z.ej k (by omega) (by omega);have P:Hid (Bg b w w3):=CH.dx R.out k (by omega);have M:Hid (∃ao cap,bv=.slice ao D.lits.length cap):=Au g;have X:Hid (∃G j,sv=.slice G D.ah.length j):=Au c;clear m Z K a k f));obtain⟨ao,cap,rfl⟩:=M.out;obtain⟨G,j,rfl⟩:=X.out;obtain⟨c0,c1,c2,c3,c4,c5,c6⟩:=Q.c7
 go_region_with (go_at_call 89;refine(FH _ b s D.rest 46 (by exact r.drew) V (by omega)).mono ?_;rintro e w4 ⟨rfl,O,y⟩;have d:=E.drew.kept y (by omega);have S:=Q.drew.kept y (by omega);have J:=D1 g.drew y (Av g r.at.1 (by decide));have Y:=D1 c.drew y (Av c r.at.1 (by decide));obtain⟨d0,d1,d2,d3,d4,d5,d6⟩:=S.c7;obtain⟨a0,L,H,W,h,a5,a6⟩:=d.c7;have fP:=d.frozen;have C:Hid (Bg b w w4):=P.out.bx.trans y)
 all_goals go_wp2
 all_goals rw[I.out,<-U.out,<-N.out,<-HD.out]
 all_goals exact Aq (v:=.tuple #[.agg #[.string A.nm,.int .i64 A.cn,.string (A.t 0),.string (A.t 1),.string (A.t 2),.slice ao D.lits.length cap,.slice G D.ah.length j],.bool (AX D.rest 46)]) (by simp[results,results57,go_sem,a0,L,H,W,h,a5,a6]) rfl ⟨_,rfl,⟨A.nm,A.t 0,A.t 1,A.t 2,A.cn,ao,G,D.lits.length,D.ah.length,cap,j,rfl,fun _=>⟨rfl,rfl,rfl,N2 (BS J (by omega)) _ (Av J d (by decide)) _ _ _ _ _ _ _,N2 (BS Y (by omega)) _ (Av Y d (by decide)) _ _ _ _ _ _ _⟩⟩,O.dj _ (by omega) _ _ _ _ _ _ _,C.out.dj _ (by omega) _ _ _ _ _ _ _⟩
theorem T0(w:World)(b:Nat)(s:ByteArray)(l:B8)(hR:Rd w b s l)(hs:s.size<=281474976710656):
 Calls prog 57 #[.pointer (some ⟨b,0,none⟩)] w fun e w'=>∃v,e=.returned v/\Jb w w' (BH s l) v/\Rd w' b s (BH s l).rest/\Bg b w w':=by
 cases h1:(Bf s l).ok
 ·exact Yo w b s l hR hs h1
 ·cases h2:AX (Bf s l).rest 58
  ·exact T2 w b s l hR hs h1 h2
  ·cases h3:(Dc s [Ce s l] (AT (Bf s l).rest 58)).ok
   ·exact VM w b s l hR hs h1 h2 h3
   ·exact TY w b s l hR hs h1 h2 h3
end
end Go.Proofs.YtpbfiffgcgnidaaGreatDoor
