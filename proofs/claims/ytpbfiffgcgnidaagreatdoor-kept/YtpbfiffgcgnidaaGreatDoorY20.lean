import Derived.Test.YtpbfiffgcgnidaaGreatDoorYal
import Derived.Test.YtpbfiffgcgnidaaGreatDoorY1
import Derived.Test.YtpbfiffgcgnidaaGreatDoorY2
import Derived.Test.YtpbfiffgcgnidaaGreatDoorY9
import Derived.Test.YtpbfiffgcgnidaaGreatDoorY19
namespace Go.Proofs.YtpbfiffgcgnidaaGreatDoor
set_option maxRecDepth 100000
set_option maxHeartbeats 4000000
set_option linter.unusedSimpArgs false
open Go.Proofs.Tryz
section
attribute [local go_sem] AE As
open Go.RowKit Go.WideMaps Go.Maps
def L2(w:World)(B b:Nat)(l:B8):Prop:=∃p v,Aw w b [p,v] 134/\(p=.pointer none\/p=.pointer (some ⟨b,0,none⟩))/\w.ownsRow B 5 1 v l.length (Lib.byteCells l)/\B<=b
def oA(w:World)(B b:Nat)(l:B8):Prop:=∃v,Aw w b [.pointer (some ⟨b,0,none⟩),v] 134/\w.ownsRow B 5 1 v l.length (Lib.byteCells l)/\B<=b
theorem MZ:(prog.info? 134).map (fun i=>i.size)=some 2:=by kernel_rfl
theorem Tl:liesAt prog prog.depth 134 (2 / prog.cellsOf 134) 0 134 1=true:=by kernel_rfl
theorem OI(b:Nat)(w:World)(h0:w.cell? ⟨b,0,none⟩=some (.pointer (some ⟨b,0,none⟩))):
 Calls prog 103 #[.pointer (some ⟨b,0,none⟩)] w fun e w'=>e=.returned (.tuple #[])/\w'=w:=by
 obtain⟨j,q,_⟩:=Option.map_eq_some_iff.1 MZ;go_enter func103,ntmps103;go_wp2;rw[Lib.run_neq_ptr_same w _ underlying131 q];go_wp2
 go_end0
 exact⟨rfl,rfl⟩
theorem pL(b:Nat)(w:World)(z:w.shape? b=some (134,2)):
 (convert 131 238 (.pointer (some ⟨b,0,none⟩))).run prog w=.ok (.pointer (some ⟨b,0,none⟩)) w:=by
 obtain⟨j,y,q⟩:=Option.map_eq_some_iff.1 MZ;simp[convert,run_underlying underlying131,run_underlying underlying238];change Sem.run prog (underlying 131>>=_) w=_;simp[run_underlying underlying131,run_underlying underlying238,Conv.seenAt,viewAt,cellsIn,z,sizeOf,typeInfo,y,q]
theorem pM(b:Nat)(w:World)(q:w.shape? b=some (134,2)):
 (convert 238 131 (.pointer (some ⟨b,0,none⟩))).run prog w=.ok (.pointer (some ⟨b,0,none⟩)) w:=by
 obtain⟨j,z,q0⟩:=Option.map_eq_some_iff.1 MZ;simp[convert,run_underlying underlying131,run_underlying underlying238];change Sem.run prog (underlying 238>>=_) w=_;simp[run_underlying underlying131,run_underlying underlying238,Conv.seenAt,viewAt,q,variablesAt,Tl,sizeOf,typeInfo,z]
theorem Nl(b:Nat)(w:World)(h0:w.cell? ⟨b,0,none⟩=some (.pointer none))(q:w.shape? b=some (134,2))(q0:w.frozen? ⟨b,0,none⟩=false):
 Calls prog 103 #[.pointer (some ⟨b,0,none⟩)] w fun e w'=>e=.returned (.tuple #[])/\w'=w.setCell ⟨b,0,none⟩ (.pointer (some ⟨b,0,none⟩)):=by
 go_enter func103,ntmps103;go_wp2;rw[pL b w q];simp only[Result.andThen];rw[Oper.upon_value];go_wp2;rw[run_callFunc_extern func141 (by kernel_rfl) (by kernel_rfl) (by kernel_rfl) (e:=Extern.AbiNoEscape.same) (by kernel_rfl)];rw[Lib.run_noEscape];simp only[Result.andThen];rw[Oper.upon_value];go_wp2;rw[pM b w q];simp only[Result.andThen];rw[Oper.upon_value];go_wp2
 go_end0
 exact⟨rfl,rfl⟩
theorem M4(w:World)(B b:Nat)(l:B8)(h:L2 w B b l)(z:B<=w.heap.size):
 Calls prog 103 #[.pointer (some ⟨b,0,none⟩)] w fun e w'=>e=.returned (.tuple #[])/\oA w' B b l/\Bz B b [5] w w':=by
 obtain⟨p,v,hb,y,j,q⟩:=h;rcases y with rfl|rfl
 ·refine(Nl b w (hb.cell 0) (by unfold Aw at hb;simp[World.shape?,hb]) (hb.frozen 0)).mono ?_;rintro e w' ⟨rfl,rfl⟩;exact⟨rfl,⟨v,hb.setCell 0 _,AJ j ⟨b,0,none⟩ _ (Av j hb (by decide)),q⟩,Bz.kept (Bg.setCell (b:=b) w (p:=⟨b,0,none⟩) rfl _) z⟩
 ·refine(OI b w (hb.cell 0)).mono ?_;rintro e w' ⟨rfl,rfl⟩;exact⟨rfl,⟨v,hb,j,q⟩,Bz.refl _ _ _ _⟩
theorem TB:(prog.info? 5).map (fun i=>(i.zero,i.size,i.bytes))=some (some (.int .u8 0),1,1):=by kernel_rfl
theorem OO(l:B8)(c:UInt8):Lib.byteCells (l++[c])=Lib.byteCells l++[.int .u8 (c.toNat:Int)]:=by simp[Lib.byteCells]
theorem Ez(w:World)(B b:Nat)(l:B8)(c:UInt8)(x:Int)(hx:x=(c.toNat:Int))(h:L2 w B b l)(J:B<=w.heap.size)(hl:l.length<=1000000):
 Calls prog 66 #[.pointer (some ⟨b,0,none⟩),.int .u8 x] w fun e w'=>e=.returned .nilIface/\L2 w' B b (l++[c])/\Bz B b [5] w w':=by
 have o:=Ao hx;clear hx;obtain⟨Y,Z,n,s,f⟩:=Bc TB;go_enter func66,ntmps66;go_wp2_with (first|(go_at_call 103;refine(M4 _ B b l h J).mono ?_;rintro e w1 ⟨rfl,m,y⟩;obtain⟨v,z,j,r⟩:=m;obtain⟨ao,cap,rfl⟩:=Au j;have i:=z.cell 1;simp at i;have q1:=y.size)|(at_builtin;refine AF _ rfl _ _ 132 rfl B 5 Y _ 1 1 underlying132 Z n s f rfl (by decide) _ l.length (Lib.byteCells l) rfl (j.alloc _) ⟨w1.heap.size,0,none⟩ 1 [.int .u8 x] rfl rfl (AS _ _ _) (by intro u a;simp at a;subst a;rfl) (by unfold maxLen;omega) (by omega) (by simp;omega) ?_;intro g q0 w2 t d;have q:=(z.alloc _).grown d (Av j z (by decide));have Q:=q.cell 1;have f2:=q.frozen;simp at Q))
 go_ret
 refine⟨rfl,⟨_,_,q.setCell 1 _,.inr rfl,?_,r⟩,?_⟩
 ·rw[OO,<-o.out,Am];exact AJ t ⟨b,1,none⟩ _ (Av t q (by decide))
 ·have k:Bz B b [5] w w2:=(y.trans (Bz.alloc _ _ (by omega))).trans (Bz.grown d (j.alloc _) (Ab _) (by simp;omega) (by simp));exact k.trans (Bz.kept (Bg.setCell (b:=b) w2 (p:=⟨b,1,none⟩) rfl _) (by have:=k.size;omega))
theorem FL(w:World)(B b:Nat)(l:B8)(s:B8)(h:L2 w B b l)(a:B<=w.heap.size)(hl:l.length<=1000000)(hs:s.length<=1000000):
 Calls prog 102 #[.pointer (some ⟨b,0,none⟩),.string (bs s)] w fun e w'=>e=.returned (.tuple #[.int .i64 s.length,.nilIface])/\L2 w' B b (l++s)/\Bz B b [5] w w':=by
 obtain⟨i,o,c,m,n⟩:=Bc TB;have k:=NC s;go_enter func102,ntmps102;go_wp2_with (first|(go_at_call 103;refine(M4 _ B b l h a).mono ?_;rintro e w1 ⟨rfl,r,u⟩;obtain⟨v,y,j,t⟩:=r;obtain⟨ao,cap,rfl⟩:=Au j;have x:=y.cell 1;simp at x;have q3:=u.size)|(at_builtin;refine Lib.wpList_append_own_string _ rfl _ _ 132 9 rfl B 5 i underlying132 underlying9 o c m n _ _ _ rfl j (bs s) rfl (by rw[k];unfold maxLen;omega) (by rw[k];omega) (by omega) ?_;intro v2 w2 z d q2;obtain⟨q1,q0,rfl⟩:=Au z;have q:=y.grown d (Av j y (by decide));have f:=q.cell 1;have f2:=q.frozen;simp at f));go_ret2;rw[k]at z;refine⟨rfl,⟨_,_,q.setCell 1 _,.inr rfl,?_,t⟩,?_⟩
 ·rw[Lib.byteCells_append,Am];exact AJ z ⟨b,1,none⟩ _ (Av z q (by decide))
 ·have g:Bz B b [5] w w2:=u.trans (Bz.grown d j (Ab _) (by omega) (by simp));exact g.trans (Bz.kept (Bg.setCell (b:=b) w2 (p:=⟨b,1,none⟩) rfl _) (by have:=g.size;omega))
def DI(n:B8)(ts:List B8):B8:=if ts.length=0 then n else n++[40]++Lib.join ts [44]++[41]
theorem WM(l:B8):(bs l).data.toList=l:=by simp[bs]
theorem L2.alloc{w:World}{B b:Nat}{l:B8}(h:L2 w B b l)(o:Obj):L2 (w.alloc o) B b l:=by obtain⟨p,v,h1,h2,h3,q⟩:=h;exact⟨p,v,h1.alloc o,h2,h3.alloc o,q⟩
theorem L2.below{w w':World}{B b:Nat}{l:B8}(h:L2 w B b l)(hb:Below w.heap.size w w'):L2 w' B b l:=by obtain⟨p,v,h1,h2,h3,q⟩:=h;exact⟨p,v,h1.below hb,h2,Ah h3 hb,q⟩
theorem Bz.below{base sb:Nat}{T:List TypeId}{w w':World}(h:Below w.heap.size w w')(hb:base<=w.heap.size):Bz base sb T w w':=
 ⟨h.os,h.tape,h.output,h.size,fun k hk _=>h.block k (by omega),fun _ _ _ _ _ h3=>h3.below h⟩
theorem L2.lt{w:World}{B b:Nat}{l:B8}(h:L2 w B b l):b<w.heap.size:=by obtain⟨p,v,h1,_⟩:=h;exact h1.lt
theorem Zh(ts:List B8)(h:∀t∈ts,t.length<=12):(Lib.joinTail [44] ts).length<=13*ts.length:=by
 induction ts with
 |nil=>simp[Lib.joinTail]
 |cons t r q=>have h1:=h t (by simp);have h2:=q (fun x hx=>h x (by simp[hx]));simp only[Lib.joinTail,A6,List.flatten_cons,Am,List.length_cons,List.length_nil]at h2⊢;omega
theorem Of(ts:List B8)(h:∀t∈ts,t.length<=12):(Lib.join ts [44]).length<=13*ts.length:=by
 cases ts with
 |nil=>simp[Lib.join_nil]
 |cons t r=>rw[Lib.join_cons];have h1:=h t (by simp);have h2:=Zh r (fun x hx=>h x (by simp[hx]));simp only[Am,List.length_cons];omega
theorem Tv(w:World)(R:Nat)(ts:List B8)(hR:R<w.heap.size)(h3:ts.length<=3)(ht:∀t∈ts,t.length<=12)(hc:∀(j:Nat) x,(ts.map bs)[j]? =some x->w.cell? ⟨R,2+j,none⟩=some (.string x)):
 Calls prog 140 #[.slice (some ⟨R,2,none⟩) ts.length 3,.string ⟨#[44]⟩] w fun e w'=>e=.returned (.string (bs (Lib.join ts [44])))/\Below w.heap.size w w':=by
 have q0:=Of ts ht;have z:(ts.map bs).map (fun x:ByteArray=>x.data.toList)=ts:=by rw[C6,show((fun x:ByteArray=>x.data.toList) ∘ bs)=id from funext WM,List.map_id]
 have y:(⟨#[44]⟩:ByteArray).data.toList=[44]:=rfl;have q:=Tryz.strings_Join R 2 3 (ts.map bs) ⟨#[44]⟩ w hc hR (by simp;omega) (by simpa using h3) (by rw[z,y];omega);rw[AK,z,y]at q;exact q
theorem JY(w:World)(B b:Nat)(l:B8)(n:B8)(ts:List B8)(h:L2 w B b l)(L:B<=w.heap.size)(hl:l.length<=900000)(hn:n.length<=12)(h3:ts.length<=3)(ht:∀t∈ts,t.length<=12):
 Calls prog 101 #[.pointer (some ⟨b,0,none⟩),.agg #[.string (bs n),.int .i64 (ts.length:Nat),.string (bs (ts.getD 0 [])),.string (bs (ts.getD 1 [])),.string (bs (ts.getD 2 []))]] w fun e w'=>e=.returned (.tuple #[])/\L2 w' B b (l++DI n ts)/\Bz B b [5] w w':=by
 have q0:=h.lt;have q1:=Of ts ht;obtain⟨m,E⟩:∃m,Hid (m=bs (ts.getD 0 [])):=⟨_,rfl⟩;obtain⟨s,A⟩:∃s,Hid (s=bs (ts.getD 1 [])):=⟨_,rfl⟩;obtain⟨f,O⟩:∃f,Hid (f=bs (ts.getD 2 [])):=⟨_,rfl⟩;rw[<-E.out,<-A.out,<-O.out];have u:=Aw.new w [Value.string (bs n),.int .i64 (ts.length:Nat),.string m,.string s,.string f] 80;have p:Bz B b [5] w (w.alloc (.cells #[Value.string (bs n),.int .i64 (ts.length:Nat),.string m,.string s,.string f] 80)):=Bz.alloc _ _ L;by_cases Z:ts.length=0
 ·have hq:((ts.length:Int)==0)=true:=by rw[Co];omega
  have Y:=Ao (show DI n ts=n by simp[DI,Z]);clear Z;go_enter func101,ntmps101;go_wp2_with (go_at_call 102;refine(FL _ B b l n (by exact h.alloc _) (by simp;omega) (by omega) (by omega)).mono ?_;rintro e w1 ⟨rfl,r,z⟩;have q:=z.ty _ _ _ (by omega) (by decide) u;obtain⟨a,o,i,Q,J⟩:=q.c5);rw[Y.out];exact Aq (v:=.tuple #[]) (by simp[results,results101,go_sem]) rfl ⟨rfl,r,p.trans z⟩
 ·have hq:((ts.length:Int)==0)=false:=by rw[Az];omega
  have Y:=Ao (show DI n ts=n++[40]++Lib.join ts [44]++[41] by simp[DI,Z]);clear Z;have q2:=fun W:World=>NO ts.length h3 w.heap.size 2 W
  have k:∀W:World,Aw W w.heap.size [.string (bs n),.int .i64 (ts.length:Nat),.string m,.string s,.string f] 80->∀(j:Nat) x,(ts.map bs)[j]? =some x->W.cell? ⟨w.heap.size,2+j,none⟩=some (.string x):=by
   intro W hW j x hx;have I:j<ts.length:=by have:=(List.getElem?_eq_some_iff.1 hx).1;simpa using this
   have S:x=bs ts[j]:=by simp[I]at hx;exact hx.symm
   rw[hW.cell,E.out,A.out,O.out,S];have h:j=0\/j=1\/j=2:=by omega
   rcases h with rfl|rfl|rfl<;>simp[I]
  go_enter func101,ntmps101;go_wp2_with fail;refine(FL _ B b l n (by exact h.alloc _) (by simp;omega) (by omega) (by omega)).mono ?_;rintro e w1 ⟨rfl,r,z⟩;have q:=z.ty _ _ _ (by omega) (by decide) u;obtain⟨a,o,i,Q,J⟩:=q.c5;have C:B<=w1.heap.size:=by have:=z.size;simp at this;omega
  go_wp2_with fail;refine(Ez _ B b (l++n) 40 _ rfl r C (by simp;omega)).mono ?_;rintro e w2 ⟨rfl,U,d⟩;have y:=d.ty _ _ _ (by omega) (by decide) q;clear a o i Q J;obtain⟨a,o,i,Q,J⟩:=y.c5;have M:B<=w2.heap.size:=by have:=d.size;omega
  go_wp2_with fail;refine(Tv w2 w.heap.size ts y.lt h3 ht (k w2 y)).mono ?_;rintro e w3 ⟨rfl,g⟩;have G:=U.below g;have K:Bz B b [5] w2 w3:=Bz.below g M;have N:B<=w3.heap.size:=by have:=g.size;omega
  clear a o i Q J;go_wp2_with fail;refine(FL _ B b (l++n++[40]) (Lib.join ts [44]) G N (by simp;omega) (by omega)).mono ?_;rintro e w4 ⟨rfl,R,c⟩;have X:B<=w4.heap.size:=by have:=c.size;omega
  go_wp2_with fail;refine(Ez _ B b (l++n++[40]++Lib.join ts [44]) 41 _ rfl R X (by simp;omega)).mono ?_;rintro e w5 ⟨rfl,P,V⟩;go_wp2_with fail
  go_end0
  rw[Y.out];exact⟨rfl,by simpa using P,(((p.trans z).trans d).trans K).trans (c.trans V)⟩
theorem L2.fz{w:World}{B b:Nat}{l:B8}(h:L2 w B b l):Lib.IsBuilderF 134 5 B b (Lib.byteCells l) w:=by
 obtain⟨p,v,h1,h2,h3,z⟩:=h
 have q:∀p,Aw w b [p,v] 134->Lib.BuilderAtF 134 5 B b p (Lib.byteCells l) w:=fun p j=>
  Lib.BuilderAtF.of ⟨z,v,j,by rw[Lib.byteCells_length];exact h3,Av h3 j (by decide)⟩
 rcases h2 with rfl|rfl
 ·exact .inl (q _ h1)
 ·exact .inr (q _ h1)
def F9(i:Nat)(l:BQ):B8:=(if i=0 then [58,45] else [44])++((if l.neg=true then [33] else [])++DI l.name l.ts)
def Gm:Nat->List BQ->B8
 |_,[]=>[]
 |i,l::r=>F9 i l++Gm (i+1) r
def Bd.shown(d:Bd):B8:=DI d.name d.ts++Gm 0 d.lits++[46]
def Er(ds:List Bd):B8:=ds.flatMap fun d=>d.shown++[10]
theorem UQ(i:Nat)(ls:List BQ)(l:BQ):Gm i (ls++[l])=Gm i ls++F9 (i+ls.length) l:=by
 induction ls generalizing i with
 |nil=>simp[Gm]
 |cons a r q=>simp only[List.cons_append,Gm,q,List.length_cons,Bm];rw[show i+1+r.length=i+(r.length+1) by omega]
theorem Kp(n:B8)(ts:List B8)(hn:n.length<=12)(h3:ts.length<=3)(ht:∀t∈ts,t.length<=12):(DI n ts).length<=60:=by
 have:=Of ts ht;unfold DI
 split
 ·omega
 ·simp;omega
theorem Pz(w:World)(B b base:Nat)(l:B8)(d:Bd)(bo:Option Addr)(bcap:Nat)(h:L2 w B b l)(hB:B<=w.heap.size)(hl:l.length<=500000)(X:d.WF)
 (hL:w.ownsRow base 186 6 (.slice bo d.lits.length bcap) d.lits.length (d.lits.flatMap BQ.cells)):
 Calls prog 65 #[.pointer (some ⟨b,0,none⟩),.agg #[.string (bs d.name),.int .i64 (d.ts.length:Nat),.string (bs (d.ts.getD 0 [])),.string (bs (d.ts.getD 1 [])),.string (bs (d.ts.getD 2 [])),.slice bo d.lits.length bcap]] w fun e w'=>e=.returned (.tuple #[])/\L2 w' B b (l++d.shown)/\Bz B b [5] w w':=by
 have q2:=h.lt;have q6:=X.lits;have S:=X.words (d.name,d.ts) (by simp[Bd.atoms]);have q5:=Kp d.name d.ts S.1 S.2.1 S.2.2;obtain⟨I,Y0⟩:∃I,Hid (I=bs (d.ts.getD 0 [])):=⟨_,rfl⟩;obtain⟨H,Y1⟩:∃H,Hid (H=bs (d.ts.getD 1 [])):=⟨_,rfl⟩;obtain⟨y2,Y2⟩:∃y2,Hid (y2=bs (d.ts.getD 2 [])):=⟨_,rfl⟩;have M:=fun(W:World) (hb:L2 W B b l) (hs:B<=W.heap.size)=>JY W B b l d.name d.ts hb hs (by omega) S.1 S.2.1 S.2.2;rw[<-Y0.out,<-Y1.out,<-Y2.out];rw[<-Y0.out,<-Y1.out,<-Y2.out]at M;have q0:=Ao M;clear M;have z:=Aw.new w [Value.string (bs d.name),.int .i64 (d.ts.length:Nat),.string I,.string H,.string y2,.slice bo d.lits.length bcap] 86;have E:Bz B b [5] w (w.alloc (.cells #[Value.string (bs d.name),.int .i64 (d.ts.length:Nat),.string I,.string H,.string y2,.slice bo d.lits.length bcap] 86)):=Bz.alloc _ _ hB;go_enter func65,ntmps65;go_wp2_with (go_at_call 101;refine(q0.out _ (by exact h.alloc _) (by simp;omega)).mono ?_;rintro e w1 ⟨rfl,g,q⟩;have j:=q.ty _ _ _ (by omega) (by decide) z;have f5:=j.cell 5;simp at f5);have Y:=E.trans q;clear E q z
 go_loopw [13] (fun kv wr=>∃(k:Nat),k<=d.lits.length/\kv=.int .i64 k/\(l++DI d.name d.ts++Gm 0 (d.lits.take k)).length<=500060+70*k/\L2 wr B b (l++DI d.name d.ts++Gm 0 (d.lits.take k))/\Bz B b [5] w wr) (fun kv _=>d.lits.length-(intOf kv).toNat)
 case atStart=>exact⟨0,by omega,rfl,by simp[Gm];omega,by simpa[Gm]using g,Y⟩
 case round=>
  clear g Y f5 j;obtain⟨k,hk,rfl,q7,hb,P⟩:=hrel;have Q:B<=wr.heap.size:=by have:=P.size;omega
  have q3:=hb.lt;by_cases s:k<d.lits.length
  ·obtain⟨g0,q1,q4,e0,e1,e2,e3,e4,O⟩:=Jq (P.own hL (by obtain⟨p,v,h1,_⟩:=h;exact Av hL h1 (by decide)) (by decide)) k s;subst q1;have a:=X.words (d.lits[k].name,d.lits[k].ts) (by simp only[Bd.atoms,Br,C4];exact .inr ⟨d.lits[k],Aj s,rfl⟩);have Z:=Ao (show Gm 0 (d.lits.take (k+1))=Gm 0 (d.lits.take k)++F9 k d.lits[k] by rw[Ad s,UQ];simp;rw[Nat.min_eq_left (by omega)]);generalize d.lits[k]=L at*;generalize o:l++DI d.name d.ts++Gm 0 (d.lits.take k)=acc at*;have u:=Ao o;clear o;have q8:=Kp L.name L.ts a.1 a.2.1 a.2.2
   have J:Hid (∀(W:World) (ac:B8),L2 W B b ac->B<=W.heap.size->ac.length<=900000->Calls prog 101 #[.pointer (some ⟨b,0,none⟩),.agg #[.string L.nm,.int .i64 L.cn,.string (L.t 0),.string (L.t 1),.string (L.t 2)]] W fun e w'=>e=.returned (.tuple #[])/\L2 w' B b (ac++DI L.name L.ts)/\Bz B b [5] W w'):=
    fun W ac h1 h2 h3=>JY W B b ac L.name L.ts h1 h2 h3 a.1 a.2.1 a.2.2
   have z:=Aw.new wr [Value.string L.nm,.int .i64 L.cn,.string (L.t 0),.string (L.t 1),.string (L.t 2),.bool L.neg] 186;by_cases r:k=0
   ·cases hng:L.neg
    ·have c:=Ao (show F9 k L=[58,45]++([]++DI L.name L.ts) by simp[F9,hng,r]);have hq:(((k:Nat):Int)==0)=true:=by rw[Co];omega
     clear r;rw[hng]at O z;go_wp2_with fail;refine(FL _ B b acc [58,45] (by exact hb.alloc _) (by simp;omega) (by omega) (by simp)).mono ?_;rintro e w1 ⟨rfl,g,q⟩;have j:=q.ty _ _ _ (by omega) (by decide) z;have f:B<=w1.heap.size:=by have:=q.size;simp at this;omega
     obtain⟨K,V,U,G,R,c5⟩:=j.c6;go_wp2_with fail;refine(J.out _ (acc++[58,45]) g f (by simp;omega)).mono ?_;rintro e w3 ⟨rfl,x,n⟩;go_wp2_with fail;have y:acc++F9 k L=acc++[58,45]++DI L.name L.ts:=by rw[c.out];simp
     exact⟨⟨k+1,s,by go_num,by rw[Z.out,<-Bm,u.out,y];simp;omega,by rw[Z.out,<-Bm,u.out,y];exact x,((P.trans (Bz.alloc _ _ Q)).trans q).trans n⟩,by simp[intOf];omega⟩
    ·have c:=Ao (show F9 k L=[58,45]++([33]++DI L.name L.ts) by simp[F9,hng,r]);have hq:(((k:Nat):Int)==0)=true:=by rw[Co];omega
     clear r;rw[hng]at O z;go_wp2_with fail;refine(FL _ B b acc [58,45] (by exact hb.alloc _) (by simp;omega) (by omega) (by simp)).mono ?_;rintro e w1 ⟨rfl,g,q⟩;have j:=q.ty _ _ _ (by omega) (by decide) z;have f:B<=w1.heap.size:=by have:=q.size;simp at this;omega
     obtain⟨K,V,U,G,R,c5⟩:=j.c6;go_wp2_with fail;refine(Ez _ B b (acc++[58,45]) 33 _ rfl g f (by simp;omega)).mono ?_;rintro e w2 ⟨rfl,C,m⟩;have i:=m.ty _ _ _ (by omega) (by decide) j;have N:B<=w2.heap.size:=by have:=m.size;omega
     clear K V U G R c5;obtain⟨K,V,U,G,R,c5⟩:=i.c6;go_wp2_with fail;refine(J.out _ (acc++[58,45]++[33]) C N (by simp;omega)).mono ?_;rintro e w3 ⟨rfl,x,n⟩;go_wp2_with fail;have y:acc++F9 k L=acc++[58,45]++[33]++DI L.name L.ts:=by rw[c.out];simp
     exact⟨⟨k+1,s,by go_num,by rw[Z.out,<-Bm,u.out,y];simp;omega,by rw[Z.out,<-Bm,u.out,y];exact x,(((P.trans (Bz.alloc _ _ Q)).trans q).trans m).trans n⟩,by simp[intOf];omega⟩
   ·cases hng:L.neg
    ·have c:=Ao (show F9 k L=[44]++([]++DI L.name L.ts) by simp[F9,hng,r]);have hq:(((k:Nat):Int)==0)=false:=by rw[Az];omega
     clear r;rw[hng]at O z;go_wp2_with fail;refine(Ez _ B b acc 44 _ rfl (by exact hb.alloc _) (by simp;omega) (by omega)).mono ?_;rintro e w1 ⟨rfl,g,q⟩;have j:=q.ty _ _ _ (by omega) (by decide) z;have f:B<=w1.heap.size:=by have:=q.size;simp at this;omega
     obtain⟨K,V,U,G,R,c5⟩:=j.c6;go_wp2_with fail;refine(J.out _ (acc++[44]) g f (by simp;omega)).mono ?_;rintro e w3 ⟨rfl,x,n⟩;go_wp2_with fail;have y:acc++F9 k L=acc++[44]++DI L.name L.ts:=by rw[c.out];simp
     exact⟨⟨k+1,s,by go_num,by rw[Z.out,<-Bm,u.out,y];simp;omega,by rw[Z.out,<-Bm,u.out,y];exact x,((P.trans (Bz.alloc _ _ Q)).trans q).trans n⟩,by simp[intOf];omega⟩
    ·have c:=Ao (show F9 k L=[44]++([33]++DI L.name L.ts) by simp[F9,hng,r]);have hq:(((k:Nat):Int)==0)=false:=by rw[Az];omega
     clear r;rw[hng]at O z;go_wp2_with fail;refine(Ez _ B b acc 44 _ rfl (by exact hb.alloc _) (by simp;omega) (by omega)).mono ?_;rintro e w1 ⟨rfl,g,q⟩;have j:=q.ty _ _ _ (by omega) (by decide) z;have f:B<=w1.heap.size:=by have:=q.size;simp at this;omega
     obtain⟨K,V,U,G,R,c5⟩:=j.c6;go_wp2_with fail;refine(Ez _ B b (acc++[44]) 33 _ rfl g f (by simp;omega)).mono ?_;rintro e w2 ⟨rfl,C,m⟩;have i:=m.ty _ _ _ (by omega) (by decide) j;have N:B<=w2.heap.size:=by have:=m.size;omega
     clear K V U G R c5;obtain⟨K,V,U,G,R,c5⟩:=i.c6;go_wp2_with fail;refine(J.out _ (acc++[44]++[33]) C N (by simp;omega)).mono ?_;rintro e w3 ⟨rfl,x,n⟩;go_wp2_with fail;have y:acc++F9 k L=acc++[44]++[33]++DI L.name L.ts:=by rw[c.out];simp
     exact⟨⟨k+1,s,by go_num,by rw[Z.out,<-Bm,u.out,y];simp;omega,by rw[Z.out,<-Bm,u.out,y];exact x,(((P.trans (Bz.alloc _ _ Q)).trans q).trans m).trans n⟩,by simp[intOf];omega⟩
  ·have A:k=d.lits.length:=by omega
   have HS:=Ao (show l++d.shown=l++DI d.name d.ts++Gm 0 (d.lits.take k)++[46] by rw[A,AL];simp[Bd.shown]);clear A;go_wp2_with (go_at_call 66;refine(Ez _ B b _ 46 _ rfl hb Q (by omega)).mono ?_;rintro e w1 ⟨rfl,g,q⟩)
   go_end0
   rw[HS.out];exact⟨rfl,g,P.trans q⟩
end
section
attribute [local go_sem] AE As
open Go.RowKit Go.WideMaps Go.Maps Go.Sort
theorem U7(w:World)(n:B8)(ts:List B8)(hn:n.length<=12)(h3:ts.length<=3)(ht:∀t∈ts,t.length<=12):
 Calls prog 145 #[.agg #[.string (bs n),.int .i64 (ts.length:Nat),.string (bs (ts.getD 0 [])),.string (bs (ts.getD 1 [])),.string (bs (ts.getD 2 []))]] w fun e w'=>e=.returned (.string (bs (DI n ts)))/\Below w.heap.size w w':=by
 have k:Hid (∀(W:World) (B b:Nat),L2 W B b []->B<=W.heap.size->Calls prog 101 #[.pointer (some ⟨b,0,none⟩),.agg #[.string (bs n),.int .i64 (ts.length:Nat),.string (bs (ts.getD 0 [])),.string (bs (ts.getD 1 [])),.string (bs (ts.getD 2 []))]] W fun e w'=>e=.returned (.tuple #[])/\L2 w' B b ([]++DI n ts)/\Bz B b [5] W w'):=fun W B b h m=>JY W B b [] n ts h m (by simp) hn h3 ht;obtain⟨j,r⟩:∃j,Hid (j=bs (ts.getD 0 [])):=⟨_,rfl⟩;obtain⟨z,p⟩:∃z,Hid (z=bs (ts.getD 1 [])):=⟨_,rfl⟩;obtain⟨y,c⟩:∃y,Hid (y=bs (ts.getD 2 [])):=⟨_,rfl⟩;rw[<-r.out,<-p.out,<-c.out]at k⊢;rw[List.nil_append]at k;go_enter func145,ntmps145;have x:=C9 w (.cells #[.string (bs n),.int .i64 (ts.length:Nat),.string j,.string z,.string y] 80) [.pointer none,.slice none 0 0] 134;have d:L2 ((w.alloc (.cells #[.string (bs n),.int .i64 (ts.length:Nat),.string j,.string z,.string y] 80)).alloc (.cells #[.pointer none,.slice none 0 0] 134)) (w.heap.size+1) (w.heap.size+1) []:=⟨_,_,x,.inl rfl,Ak _ _ _ _,Ab _⟩;have v:Below w.heap.size w ((w.alloc (.cells #[.string (bs n),.int .i64 (ts.length:Nat),.string j,.string z,.string y] 80)).alloc (.cells #[.pointer none,.slice none 0 0] 134)):=(Ac w _).alloc (by simp) _;go_wp2_with (first|(go_at_call 101;refine(k.out _ (w.heap.size+1) (w.heap.size+1) d (by simp)).mono ?_;rintro e w1 ⟨rfl,q,g⟩;have q1:=q.lt)|(go_at_call 67;refine(Tryz.Builder_String_any_k (w.heap.size+1) (w.heap.size+1) _ _ q.fz (by omega)).mono ?_;rintro e w2 ⟨rfl,q0,u,-⟩))
 go_ret
 exact⟨rfl,(v.trans ((g.toBelow (Ab _)).mono (by omega))).trans (u.mono (by omega))⟩
def CL(a:B8×List B8):B8:=DI a.1 a.2
theorem Py(w:World)(base:Nat)(ao:Option Addr)(cap:Nat)(ats:List (B8×List B8))(hA:w.ownsRow base 80 5 (.slice ao ats.length cap) ats.length (ats.flatMap FF))(hw:∀a∈ats,a.1.length<=12/\a.2.length<=3/\∀t∈a.2,t.length<=12)(hn:ats.length<=100000000000):
 Calls prog 110 #[.slice ao ats.length cap] w fun e w'=>∃v,e=.returned v/\w'.ownsRow w.heap.size 9 1 v ats.length (((ats.map CL).mergeSort fun x y=>decide (x<=y)).map fun z=>.string (bs z))/\Below w.heap.size w w':=by
 go_enter func110,ntmps110;go_wp2_with fail;obtain⟨i1,P,M,N,X⟩:=Bc Hk
 go_loopw [3,8] (fun pv E wr=>∃(k:Nat),k<=ats.length/\E=.int .i64 (k:Nat)/\wr.ownsRow w.heap.size 9 1 pv k ((ats.take k).map fun a=>.string (bs (CL a)))/\Below w.heap.size w wr) (fun _ E _=>ats.length-(intOf E).toNat)
 case atStart=>exact⟨0,by omega,rfl,Ak _ _ _ _,Ag _ _⟩
 case round=>
  obtain⟨k,hk,rfl,hR,o⟩:=hrel;have G:=o.size;by_cases b:k<ats.length
  ·obtain⟨g,U⟩:∃g,ao=some ⟨g,0,none⟩:=by
    rcases hA.2 with⟨_,L⟩|⟨g,I,cur,he,_⟩
    ·omega
    ·injection he with B _ _
     exact⟨g,B⟩
   subst U;obtain⟨a0,Z,a2,a3,a4⟩:=KD (Ah hA o) rfl k b;have d:=hw ats[k] (Aj b);have m:=Ad b;obtain⟨a,ha⟩:∃a,ats[k]=a:=⟨_,rfl⟩;simp only[ha]at a0 Z a2 a3 a4 d m;clear ha;have O:Hid ((ats.take (k+1)).map (fun a=>Value.string (bs (CL a)))=(ats.take k).map (fun a=>Value.string (bs (CL a)))++[.string (bs (CL a))]):=by show _=_;rw[m];simp
   clear m;obtain⟨po,pc,rfl⟩:=Au hR;obtain⟨nm,ts⟩:=a;have q1:wr.cell? ⟨g,k*5,none⟩=some (.string (bs nm)):=a0;have q2:wr.cell? ⟨g,k*5+1,none⟩=some (.int .i64 (ts.length:Nat)):=Z;clear a0 Z;have A:Hid (∀W:World,Calls prog 145 #[.agg #[.string (bs nm),.int .i64 (ts.length:Nat),.string (ID (nm,ts) 0),.string (ID (nm,ts) 1),.string (ID (nm,ts) 2)]] W fun e w'=>e=.returned (.string (bs (CL (nm,ts))))/\Below W.heap.size W w'):=fun W=>U7 W nm ts d.1 d.2.1 d.2.2;obtain⟨z,hz⟩:∃z,bs (CL (nm,ts))=z:=⟨_,rfl⟩;rw[hz]at A O;clear hz;go_wp2_with (first|(go_at_call 145;refine(A.out _).mono ?_;rintro e w1 ⟨rfl,Y⟩;have j:Below wr.heap.size wr w1:=(Ac wr _).trans (Y.mono (by simp));have q3:=j.size;have V:=Ah hR j)|(at_builtin;refine AF _ rfl _ _ 31 rfl w.heap.size 9 i1 _ 1 16 underlying31 P M N X rfl (by decide) _ k _ rfl (V.alloc _) ⟨w1.heap.size,0,none⟩ 1 [.string z] rfl rfl (AS w1 [.string z] 9) (by intro u hu;simp at hu;subst hu;rfl) (by unfold maxLen;omega) (by omega) (by simp;omega) ?_;intro g3 q0 w3 J R));rw[<-O.out]at J;have K:Below w.heap.size w w3:=(((A3.ab (S:=fun _=>False) (o.trans (j.mono G))).alloc _).grown R (fun q hq=>.inr (hR.lt q hq).1)).below (Ab _) (fun _ h=>h.elim);exact⟨⟨k+1,b,by go_num,J,K⟩,by simp[intOf];omega⟩
  ·have i:k=ats.length:=by omega
   rw[i,AL]at hR;clear i;rcases hR.2 with⟨C,L⟩|⟨g,I,cur,C,c,r,h1,h2,h3,h4⟩
   ·subst C;have Q:=De L;go_wp2_with (go_at_call 146;refine(Tryz.slices_Sort_none none 0 _).mono ?_;rintro e w2 ⟨rfl,rfl⟩)
    go_ret
    refine⟨_,rfl,?_,o⟩;subst Q;simp only[KM,List.mergeSort_nil,List.length_nil];exact Ak _ _ _ _
   ·subst C;obtain⟨zs,f⟩:∃zs,ats.map CL=zs:=⟨_,rfl⟩;have s:zs.length=ats.length:=by rw[<-f];simp
    have ht:cur.toList.take zs.length=zs.map encStr:=by rw[s,<-f,C6];have H:=h4;rw[Nat.mul_one]at H;exact H
    have hH:=holds_of_block r ht;have hS:=Tryz.slices_Sort g 0 I zs wr hH (by have:=hR.lt g rfl;omega) (by omega);rw[s]at hS;have HS:=Ao hS;clear hS;go_wp2_with (go_at_call 146;refine(HS.out).mono ?_;rintro e w2 ⟨rfl,n,os,q4⟩)
    go_ret
    have l:(zs.mergeSort fun x y=>decide (x<=y)).length=zs.length:=PL _;have hg:=grownBy_sorted (w:=wr) (g:=g) (n:=n) (os:=os) (zs.mergeSort fun x y=>decide (x<=y)).toArray;have p:=ownsRow_sorted (n:=n) (os:=os) (ss:=zs) l c r (by omega) h2 h3;rw[s]at p;refine⟨_,rfl,?_,((A3.ab (S:=fun _=>False) o).grown hg (fun q hq=>.inr (by have:=Be hq;omega))).below (Ab _) (fun _ h=>h.elim)⟩;rw[f];exact p
end
end Go.Proofs.YtpbfiffgcgnidaaGreatDoor
