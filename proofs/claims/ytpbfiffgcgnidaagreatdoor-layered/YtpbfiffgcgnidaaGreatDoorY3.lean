import Derived.Test.YtpbfiffgcgnidaaGreatDoorYal
import Derived.WalkKit
import Derived.WalkSpells
import Derived.WalkLawsBesides
import Derived.Deep.QuietTactic
import Derived.BigQuiet
import Derived.Deep.RegionWith
import Derived.BigRegion
import Derived.RegionTactic
import Derived.Lib.Strings
import Derived.Test.YtpbfiffgcgnidaaGreatDoorRows
import Derived.Test.YtpbfiffgcgnidaaGreatDoorY0
namespace Go.Proofs.YtpbfiffgcgnidaaGreatDoor
set_option maxRecDepth 100000
set_option maxHeartbeats 4000000
open Go.Proofs.Tryz
section
open Go.RowKit
structure Bg(b:Nat)(w w':World):Prop where
 os:w'.os=w.os
 tape:w'.tape=w.tape
 output:w'.output=w.output
 size:w.heap.size<=w'.heap.size
 block:∀k,k<w.heap.size->k≠b->w'.heap[k]? =w.heap[k]?
theorem Bg.refl(b:Nat)(w:World):Bg b w w:=⟨rfl,rfl,rfl,Ab _,fun _ _ _=>rfl⟩
theorem Bg.trans{b:Nat}{u v w:World}(h:Bg b u v)(k:Bg b v w):Bg b u w:=
 ⟨k.os.trans h.os,k.tape.trans h.tape,k.output.trans h.output,Ay h.size k.size,fun i q hn=>(k.block i (AH q h.size) hn).trans (h.block i q hn)⟩
theorem Bg.drewN(b:Nat)(w:World)(n:Nat):Bg b w (w.drewN n):=⟨rfl,rfl,rfl,Ab _,fun _ _ _=>rfl⟩
theorem Bg.drew(b:Nat)(w:World):Bg b w w.drew:=⟨rfl,rfl,rfl,Ab _,fun _ _ _=>rfl⟩
theorem Bg.alloc(b:Nat)(w:World)(o:Obj):Bg b w (w.alloc o):=⟨rfl,rfl,rfl,by simp,fun k q _=>Below.heap_alloc _ _ _ q⟩
theorem Bg.setCell{b:Nat}(w:World){p:Addr}(hp:p.block=b)(u:Value):Bg b w (w.setCell p u):=
 ⟨rfl,rfl,rfl,by simp[World.setCell],fun k _ hn=>FD _ _ _ _ (by omega)⟩
theorem Bg.ba{b:Nat}{u w:World}(h:Bg b u w){p:Addr}(hp:u.heap.size<=p.block)(x:Value):Bg b u (w.setCell p x):=
 ⟨h.os,h.tape,h.output,by simp[World.setCell];exact h.size,fun k q hn=>(FD _ _ _ _ (by omega)).trans (h.block k q hn)⟩
theorem Bg.bf{b:Nat}{u w:World}(h:Bg b u w)(n:Nat):Bg b u (w.drewN n):=⟨h.os,h.tape,h.output,h.size,h.block⟩
theorem Bg.set{b:Nat}{u w:World}(h:Bg b u w)(o:Nat)(x:Value):Bg b u (w.setCell ⟨b,o,none⟩ x):=h.trans (Bg.setCell (p:=⟨b,o,none⟩) w rfl x)
theorem Bg.aj{b:Nat}{u w:World}(h:Bg b u w)(o:Obj):Bg b u (w.alloc o):=h.trans (Bg.alloc b w o)
theorem Bg.below{b B:Nat}{w w':World}(h:Bg b w w')(hB:B<=b)(hs:B<=w.heap.size):Below B w w':=
 ⟨h.os,h.tape,h.output,h.size,fun k hk=>h.block k (by omega) (by omega)⟩
theorem Bg.cell{b:Nat}{w w':World}(h:Bg b w w')(k o:Nat)(q:k<w.heap.size)(hn:k≠b):w'.cell? ⟨k,o,none⟩=w.cell? ⟨k,o,none⟩:=World.cell?_of_block (w:=w) (h.block k q hn)
theorem Bg.frozen{b:Nat}{w w':World}(h:Bg b w w')(k o:Nat)(q:k<w.heap.size)(hn:k≠b):w'.frozen? ⟨k,o,none⟩=w.frozen? ⟨k,o,none⟩:=World.frozen?_of_block (w:=w) (h.block k q hn)
theorem Bg.ab{b:Nat}{w w':World}(h:Below w.heap.size w w'):Bg b w w':=⟨h.os,h.tape,h.output,h.size,fun k q _=>h.block k q⟩
def Aw(w:World)(b:Nat)(cs:List Value)(t:TypeId):Prop:=w.heap[b]? =some (.cells cs.toArray t (0,0))
theorem Aw.lt{w:World}{b:Nat}{cs:List Value}{t:TypeId}(h:Aw w b cs t):b<w.heap.size:=by unfold Aw at h;exact(Array.getElem?_eq_some_iff.1 h).1
theorem Aw.cell{w:World}{b:Nat}{cs:List Value}{t:TypeId}(h:Aw w b cs t)(o:Nat):w.cell? ⟨b,o,none⟩=cs[o]? :=by unfold Aw at h;simp[World.cell?,h]
theorem Aw.frozen{w:World}{b:Nat}{cs:List Value}{t:TypeId}(h:Aw w b cs t)(o:Nat):w.frozen? ⟨b,o,none⟩=false:=by unfold Aw at h;simp[World.frozen?,h]
theorem Aw.c5{w:World}{b:Nat}{x0 q j z x4:Value}{t:TypeId}(h:Aw w b [x0,q,j,z,x4] t):
 w.cell? ⟨b,0,none⟩=some x0/\w.cell? ⟨b,1,none⟩=some q/\w.cell? ⟨b,2,none⟩=some j/\w.cell? ⟨b,3,none⟩=some z/\w.cell? ⟨b,4,none⟩=some x4:=
 ⟨h.cell 0,h.cell 1,h.cell 2,h.cell 3,h.cell 4⟩
theorem Aw.c6{w:World}{b:Nat}{x0 q j z x4 x5:Value}{t:TypeId}(h:Aw w b [x0,q,j,z,x4,x5] t):
 w.cell? ⟨b,0,none⟩=some x0/\w.cell? ⟨b,1,none⟩=some q/\w.cell? ⟨b,2,none⟩=some j/\w.cell? ⟨b,3,none⟩=some z/\w.cell? ⟨b,4,none⟩=some x4/\w.cell? ⟨b,5,none⟩=some x5:=
 ⟨h.cell 0,h.cell 1,h.cell 2,h.cell 3,h.cell 4,h.cell 5⟩
theorem Aw.c7{w:World}{b:Nat}{x0 q j z x4 x5 x6:Value}{t:TypeId}(h:Aw w b [x0,q,j,z,x4,x5,x6] t):
 w.cell? ⟨b,0,none⟩=some x0/\w.cell? ⟨b,1,none⟩=some q/\w.cell? ⟨b,2,none⟩=some j/\w.cell? ⟨b,3,none⟩=some z/\w.cell? ⟨b,4,none⟩=some x4/\w.cell? ⟨b,5,none⟩=some x5/\w.cell? ⟨b,6,none⟩=some x6:=
 ⟨h.cell 0,h.cell 1,h.cell 2,h.cell 3,h.cell 4,h.cell 5,h.cell 6⟩
theorem Aw.kept{w w':World}{b c:Nat}{cs:List Value}{t:TypeId}(h:Aw w b cs t)(q:Bg c w w')(hn:b≠c):Aw w' b cs t:=by unfold Aw at*;rw[q.block b (Aw.lt (cs:=cs) (t:=t) h) hn,h]
theorem Aw.below{w w':World}{b:Nat}{cs:List Value}{t:TypeId}(h:Aw w b cs t)(q:Below w.heap.size w w'):Aw w' b cs t:=by unfold Aw at*;rw[q.block b (Aw.lt (cs:=cs) (t:=t) h),h]
theorem Aw.drewN{w:World}{b:Nat}{cs:List Value}{t:TypeId}(h:Aw w b cs t)(n:Nat):Aw (w.drewN n) b cs t:=h
theorem Aw.drew{w:World}{b:Nat}{cs:List Value}{t:TypeId}(h:Aw w b cs t):Aw w.drew b cs t:=h
theorem Aw.setCell{w:World}{b:Nat}{cs:List Value}{t:TypeId}(h:Aw w b cs t)(o:Nat)(v:Value):Aw (w.setCell ⟨b,o,none⟩ v) b (cs.set o v) t:=by unfold Aw at*;simp[World.setCell,Array.getElem?_modify,h]
theorem Aw.setOther{w:World}{b:Nat}{cs:List Value}{t:TypeId}(h:Aw w b cs t)(p:Addr)(v:Value)(hn:b≠p.block):Aw (w.setCell p v) b cs t:=by unfold Aw at*;rw[FD _ _ _ _ hn,h]
theorem Aw.alloc{w:World}{b:Nat}{cs:List Value}{t:TypeId}(h:Aw w b cs t)(o:Obj):Aw (w.alloc o) b cs t:=by unfold Aw;rw[Below.heap_alloc _ _ _ h.lt];exact h
theorem Aw.new(w:World)(cs:List Value)(t:TypeId):Aw (w.alloc (.cells cs.toArray t)) w.heap.size cs t:=by unfold Aw;show(w.heap.push _)[w.heap.size]? =_;simp
def small(c:Int):Bool:=decide (97<=c)&&decide (c<=122)
def CT(c:Int):Bool:=decide (65<=c)&&decide (c<=90)
def Ax(c:Int):Bool:=small c||(decide (48<=c)&&decide (c<=57))
def AI(c:Int):Bool:=CT c||Ax c
theorem F3(c:Int)(w:World):Calls prog 132 #[.int .u8 c] w fun e w'=>e=.returned (.bool (small c))/\w'=w:=by
 by_cases h1:97<=c<;>by_cases h2:c<=122
 all_goals
  go_enter func132,ntmps132;go_wp2
  go_ret
  exact⟨by simp[small,h1,h2],rfl⟩
theorem Kw(c:Int)(w:World):Calls prog 137 #[.int .u8 c] w fun e w'=>e=.returned (.bool (CT c))/\w'=w:=by
 by_cases h1:65<=c<;>by_cases h2:c<=90
 all_goals
  go_enter func137,ntmps137;go_wp2
  go_ret
  exact⟨by simp[CT,h1,h2],rfl⟩
theorem Gv(c:Int)(w:World):Calls prog 134 #[.int .u8 c] w fun e w'=>e=.returned (.bool (Ax c))/\w'=w:=by
 cases h0:small c
 ·by_cases h1:48<=c<;>by_cases h2:c<=57
  all_goals try (exfalso;omega)
  all_goals
   go_enter func134,ntmps134;go_wp2_with (go_at_call 132;refine(F3 _ _).mono ?_;rintro e w' ⟨rfl,rfl⟩)
   go_ret
   exact⟨by simp[Ax,h0,h1,h2],rfl⟩
 ·go_enter func134,ntmps134;go_wp2_with (go_at_call 132;refine(F3 _ _).mono ?_;rintro e w' ⟨rfl,rfl⟩)
  go_ret
  exact⟨by simp[Ax,h0],rfl⟩
theorem Ix(c:Int)(w:World):Calls prog 167 #[.int .u8 c] w fun e w'=>e=.returned (.bool (AI c))/\w'=w:=by
 cases h0:CT c
 all_goals
  go_enter func167,ntmps167;go_wp2_with (first|(go_at_call 137;refine(Kw _ _).mono ?_;rintro e w' ⟨rfl,rfl⟩)|(go_at_call 134;refine(Gv _ _).mono ?_;rintro e w' ⟨rfl,rfl⟩))
  go_ret
  exact⟨by simp[AI,h0],rfl⟩
def Jc(w:World)(b:Nat)(s:ByteArray)(i:Nat):Prop:=Aw w b [.string s,.int .i64 i] 114
def pk(s:ByteArray)(i:Nat):Int:=if h:i<s.size then(s[i].toNat:Int) else 0
theorem Jc.c0{w:World}{b:Nat}{s:ByteArray}{i:Nat}(h:Jc w b s i):w.cell? ⟨b,0,none⟩=some (.string s):=by rw[Aw.cell h];rfl
theorem Jc.c1{w:World}{b:Nat}{s:ByteArray}{i:Nat}(h:Jc w b s i):w.cell? ⟨b,1,none⟩=some (.int .i64 i):=by rw[Aw.cell h];rfl
theorem Jc.f1{w:World}{b:Nat}{s:ByteArray}{i:Nat}(h:Jc w b s i):w.frozen? ⟨b,1,none⟩=false:=Aw.frozen h 1
theorem IK(w:World)(b:Nat)(s:ByteArray)(i:Nat)(hR:Jc w b s i)(hi:i<=s.size)(hs:s.size<=maxLen):
 Calls prog 131 #[.pointer (some ⟨b,0,none⟩)] w fun e w'=>e=.returned (.int .u8 (pk s i))/\∃n,w'=w.drewN n:=by
 have c0:=hR.c0;have c1:=hR.c1;have q:=hs;unfold maxLen at q;by_cases h:i<s.size
 ·have hb:((i:Int)==(s.size:Int))=false:=by rw[Az];omega
  go_enter func131,ntmps131;go_wp2
  go_quiet (fail)
  go_wp2
  go_quiet (fail)
  go_wp2
  go_ret
  exact⟨by simp[pk,h],_,World.drewN_drewN _ _ _⟩
 ·have hb:((i:Int)==(s.size:Int))=true:=by rw[Co];omega
  go_enter func131,ntmps131;go_wp2
  go_quiet (fail)
  go_wp2
  go_ret
  exact⟨by simp[pk,h],_,rfl⟩
theorem bW(m n:Nat):((m:Int)==(n:Int))=(m==n):=by rw[Hv,Co,Co];omega
def Cf(c:Int):Bool:=c==32||c==10
def Zs(w:World)(b:Nat):Nat:=(intOf ((w.cell? ⟨b,1,none⟩).getD .nilIface)).toNat
theorem Jc.pos{w:World}{b:Nat}{s:ByteArray}{i:Nat}(h:Jc w b s i):Zs w b=i:=by simp[Zs,h.c1,intOf]
theorem Jc.drewN{w:World}{b:Nat}{s:ByteArray}{i:Nat}(h:Jc w b s i)(n:Nat):Jc (w.drewN n) b s i:=h
theorem Jc.to{w:World}{b:Nat}{s:ByteArray}{i:Nat}(h:Jc w b s i){j:Nat}{x:Int}(hx:x=j):Jc (w.setCell ⟨b,1,none⟩ (.int .i64 x)) b s j:=by subst hx;exact Aw.setCell h 1 _
theorem Jc.next{w:World}{b:Nat}{s:ByteArray}{i:Nat}(h:Jc w b s i)(n:Nat):Jc ((w.drewN n).setCell ⟨b,1,none⟩ (.int .i64 ((i:Int)+1))) b s (i+1):=Jc.to (h.drewN n) (by omega)
def KZ(s:ByteArray)(i:Nat):Nat->Nat
 |0=>i
 |f+1=>if i<s.size/\Cf (pk s i)=true then KZ s (i+1) f else i
def skip(s:ByteArray)(i:Nat):Nat:=KZ s i (s.size-i)
theorem Xh(s:ByteArray)(f i:Nat)(h:i<=s.size):i<=KZ s i f/\KZ s i f<=s.size:=by
 induction f generalizing i with
 |zero=>exact⟨Ab _,h⟩
 |succ f q=>
  unfold KZ
  split
  ·next hc=>have:=q (i+1) (by omega);omega
  ·omega
theorem Ko(s:ByteArray)(i:Nat)(h:i<=s.size):i<=skip s i/\skip s i<=s.size:=Xh s _ i h
theorem NP(s:ByteArray)(i:Nat)(h:i<s.size)(hb:Cf (pk s i)=true):skip s i=skip s (i+1):=by unfold skip;rw[show s.size-i=(s.size-(i+1))+1 by omega,KZ,Ai ⟨h,hb⟩]
theorem QZ(s:ByteArray)(i:Nat)(hb:Cf (pk s i)=false):skip s i=i:=by
 unfold skip
 cases s.size-i with
 |zero=>rfl
 |succ n=>rw[KZ,Af (by simp[hb])]
theorem MB(s:ByteArray)(i:Nat)(h:¬i<s.size):Cf (pk s i)=false:=by simp[pk,h,Cf]
theorem Hh(w:World)(b:Nat)(s:ByteArray)(i:Nat)(hR:Jc w b s i)(t:i<=s.size)(hs:s.size<=maxLen):
 Calls prog 87 #[.pointer (some ⟨b,0,none⟩)] w fun e w'=>e=.returned (.tuple #[])/\Jc w' b s (skip s i)/\Bg b w w':=by
 have d:=hs;unfold maxLen at d;go_enter func87,ntmps87;go_wp2
 go_loopw [] (fun wr=>∃k:Nat,k<=s.size/\Jc wr b s k/\skip s k=skip s i/\Bg b w wr) (fun wr=>s.size-Zs wr b)
 case atStart=>exact⟨i,t,hR,rfl,Bg.refl _ _⟩
 case round=>
  obtain⟨k,g,q,j,u⟩:=hrel;have c1:=q.c1;have f1:=q.f1;cases h1:(pk s k==32)
  ·cases h2:(pk s k==10)
   ·have y:Hid (skip s k=k):=QZ s k (by simp[Cf,h1,h2]);have v:Hid (skip s k=skip s i):=j;clear j;go_wp2_with (go_at_call 131;refine(IK _ b s k (by exact q) g hs).mono ?_;rintro e w' ⟨rfl,n,rfl⟩)
    go_end0
    refine⟨rfl,?_,?_⟩
    ·rw[<-v.out,y.out];exact q
    ·exact u.bf _
   ·have z:k<s.size:=by apply Bj;intro h;have:=MB s k h;simp[Cf,h2]at this
    have y:Hid (skip s k=skip s (k+1)):=NP s k z (by simp[Cf,h2]);have v:Hid (skip s k=skip s i):=j;clear j;go_wp2_with (go_at_call 131;refine(IK _ b s k (by exact q) g hs).mono ?_;rintro e w' ⟨rfl,n,rfl⟩);exact⟨⟨k+1,z,q.next _,by rw[<-v.out,y.out],(u.bf _).set _ _⟩,by rw[(q.next _).pos,q.pos];omega⟩
  ·have z:k<s.size:=by apply Bj;intro h;have:=MB s k h;simp[Cf,h1]at this
   have y:Hid (skip s k=skip s (k+1)):=NP s k z (by simp[Cf,h1]);have v:Hid (skip s k=skip s i):=j;clear j;go_wp2_with (go_at_call 131;refine(IK _ b s k (by exact q) g hs).mono ?_;rintro e w' ⟨rfl,n,rfl⟩);exact⟨⟨k+1,z,q.next _,by rw[<-v.out,y.out],(u.bf _).set _ _⟩,by rw[(q.next _).pos,q.pos];omega⟩
def Pn(s:ByteArray)(i:Nat)(m:Int):Bool:=pk s (skip s i)==m
def Jh(s:ByteArray)(i:Nat)(m:Int):Nat:=if Pn s i m=true then skip s i+1 else skip s i
theorem Mj(s:ByteArray)(i:Nat)(m:Int)(h:(pk s i==m)=true)(hm:0<m):i<s.size:=by apply Bj;intro hn;simp[pk,hn]at h;omega
theorem W7(s:ByteArray)(i:Nat)(m:Int)(j:0<m)(q:i<=s.size):skip s i<=Jh s i m/\Jh s i m<=s.size:=by
 have:=Ko s i q;unfold Jh;cases h:Pn s i m
 ·simp;omega
 ·have:=Mj s (skip s i) m h j;simp;omega
theorem jV(w:World)(b:Nat)(s:ByteArray)(i:Nat)(m:Int)(hR:Jc w b s i)(y:i<=s.size)(hs:s.size<=maxLen)(u:0<m):
 Calls prog 89 #[.pointer (some ⟨b,0,none⟩),.int .u8 m] w fun e w'=>e=.returned (.bool (Pn s i m))/\Jc w' b s (Jh s i m)/\Bg b w w':=by
 have v:=hs;unfold maxLen at v;have z:=Ko s i y;cases h:(pk s (skip s i)==m)
 ·have k:(pk s (skip s i) != m)=true:=by simp[bne,h]
  go_enter func89,ntmps89;go_wp2_with (first|(go_at_call 87;refine(Hh _ b s i (by exact hR) y hs).mono ?_;rintro e w1 ⟨rfl,q,j⟩)|(go_at_call 131;refine(IK _ b s (skip s i) (by assumption) z.2 hs).mono ?_;rintro e w' ⟨rfl,n,rfl⟩))
  go_ret
  exact⟨by simp[Pn,h],by simp[Jh,Pn,h];exact q,j.bf _⟩
 ·have k:(pk s (skip s i) != m)=false:=by simp[bne,h]
  have q0:=Mj s (skip s i) m h u;go_enter func89,ntmps89;go_wp2_with (first|(go_at_call 87;refine(Hh _ b s i (by exact hR) y hs).mono ?_;rintro e w1 ⟨rfl,q,j⟩;have c1:=q.c1;have f1:=q.f1)|(go_at_call 131;refine(IK _ b s (skip s i) (by assumption) z.2 hs).mono ?_;rintro e w' ⟨rfl,n,rfl⟩))
  go_ret
  refine⟨by simp[Pn,h],?_,(j.bf _).set _ _⟩;simp only[Jh,Pn,h,Ai];exact q.next _
theorem gZ(w:World)(b:Nat)(s:ByteArray)(i:Nat)(hR:Jc w b s i)(y:i<=s.size)(hs:s.size<=maxLen):
 Calls prog 56 #[.pointer (some ⟨b,0,none⟩)] w fun e w'=>e=.returned (.bool (skip s i==s.size))/\Jc w' b s (skip s i)/\Bg b w w':=by
 have z:=hs;unfold maxLen at z;have q0:=Ko s i y;go_enter func56,ntmps56;go_wp2_with (go_at_call 87;refine(Hh _ b s i (by exact hR) y hs).mono ?_;rintro e w1 ⟨rfl,q,j⟩;have c0:=q.c0;have c1:=q.c1)
 go_quiet (fail)
 go_wp2
 go_ret
 exact⟨by rw[bW];rfl,q,j.bf _⟩
def hd:B8->Int
 |[]=>0
 |c::_=>(c.toNat:Int)
def AD:B8->B8
 |[]=>[]
 |c::l=>if Cf (c.toNat:Int)=true then AD l else c::l
def AX(l:B8)(m:Int):Bool:=hd (AD l)==m
def AT(l:B8)(m:Int):B8:=if AX l m=true then(AD l).tail else AD l
def bs(l:B8):ByteArray:=⟨l.toArray⟩
def Rd(w:World)(b:Nat)(s:ByteArray)(l:B8):Prop:=∃i,i<=s.size/\s.data.toList.drop i=l/\Jc w b s i
theorem DW(s:ByteArray)(i:Nat)(h:i<s.size):s.data.toList.drop i=s[i]::s.data.toList.drop (i+1):=by rw[Aa (by simpa using h)];rfl
theorem Ie(s:ByteArray)(i:Nat)(h:¬i<s.size):s.data.toList.drop i=[]:=by apply AA;simp;simp at h;exact h
theorem Qb(s:ByteArray)(i:Nat):pk s i=hd (s.data.toList.drop i):=by
 by_cases h:i<s.size
 ·rw[DW s i h];simp[pk,hd,h]
 ·rw[Ie s i h];simp[pk,hd,h]
theorem Hn(s:ByteArray)(n i:Nat)(hn:s.size-i=n):s.data.toList.drop (skip s i)=AD (s.data.toList.drop i):=by
 induction n generalizing i with
 |zero=>
  have h:¬i<s.size:=by omega
  rw[QZ s i (MB s i h),Ie s i h];rfl
 |succ n q=>
  have h:i<s.size:=by omega
  cases hb:Cf (pk s i)
  ·rw[QZ s i hb];rw[Qb,DW s i h]at hb;rw[DW s i h];simp[AD,hd]at hb⊢;simp[hb]
  ·rw[NP s i h hb,q (i+1) (by omega)];rw[Qb,DW s i h]at hb;rw[DW s i h];simp[hd]at hb;simp[AD,hb]
theorem PO(s:ByteArray)(i:Nat)(m:Int):Pn s i m=AX (s.data.toList.drop i) m:=by unfold Pn AX;rw[Qb,Hn s _ i rfl]
theorem Ss(s:ByteArray)(i:Nat)(m:Int)(q:0<m):s.data.toList.drop (Jh s i m)=AT (s.data.toList.drop i) m:=by
 unfold Jh AT;rw[<-PO];cases h:Pn s i m
 ·simp[Hn s _ i rfl]
 ·have:=Mj s (skip s i) m h q;rw[<-Hn s _ i rfl,DW s _ this];simp
theorem JZ(w:World)(b:Nat)(s:ByteArray)(l:B8)(hR:Rd w b s l)(hs:s.size<=maxLen):
 Calls prog 131 #[.pointer (some ⟨b,0,none⟩)] w fun e w'=>e=.returned (.int .u8 (hd l))/\∃n,w'=w.drewN n:=by
 obtain⟨i,q,rfl,j⟩:=hR;rw[<-Qb];exact IK w b s i j q hs
theorem Fu(w:World)(b:Nat)(s:ByteArray)(l:B8)(hR:Rd w b s l)(hs:s.size<=maxLen):
 Calls prog 87 #[.pointer (some ⟨b,0,none⟩)] w fun e w'=>e=.returned (.tuple #[])/\Rd w' b s (AD l)/\Bg b w w':=by
 obtain⟨i,q,rfl,z⟩:=hR;refine(Hh w b s i z q hs).mono ?_;rintro e w' ⟨j,h1,h2⟩;exact⟨j,⟨skip s i,(Ko s i q).2,Hn s _ i rfl,h1⟩,h2⟩
theorem FH(w:World)(b:Nat)(s:ByteArray)(l:B8)(m:Int)(hR:Rd w b s l)(hs:s.size<=maxLen)(q:0<m):
 Calls prog 89 #[.pointer (some ⟨b,0,none⟩),.int .u8 m] w fun e w'=>e=.returned (.bool (AX l m))/\Rd w' b s (AT l m)/\Bg b w w':=by
 obtain⟨i,z,rfl,y⟩:=hR;refine(jV w b s i m y z hs q).mono ?_;rintro e w' ⟨j,h1,h2⟩;rw[PO]at j;exact⟨j,⟨Jh s i m,(W7 s i m q z).2,Ss s i m q,h1⟩,h2⟩
theorem KG(w:World)(b:Nat)(s:ByteArray)(l:B8)(hR:Rd w b s l)(hs:s.size<=maxLen):
 Calls prog 56 #[.pointer (some ⟨b,0,none⟩)] w fun e w'=>e=.returned (.bool (AD l).isEmpty)/\Rd w' b s (AD l)/\Bg b w w':=by
 obtain⟨i,q,rfl,z⟩:=hR;refine(gZ w b s i z q hs).mono ?_;rintro e w' ⟨j,h1,h2⟩;refine⟨?_,⟨skip s i,(Ko s i q).2,Hn s _ i rfl,h1⟩,h2⟩;rw[j,<-Hn s _ i rfl];have q0:=(Ko s i q).2;by_cases h:skip s i<s.size
 ·rw[DW s _ h];have:(skip s i==s.size)=false:=by rw[Az];omega
  simp[this]
 ·rw[Ie s _ h];have:(skip s i==s.size)=true:=by rw[Co];omega
  simp[this]
def Bt(q:Int->Bool):Nat->B8->Nat
 |0,_=>0
 |_+1,[]=>0
 |n+1,c::l=>if q (c.toNat:Int)=true then Bt q n l+1 else 0
theorem QO(q:Int->Bool)(n:Nat)(l:B8):Bt q n l<=l.length/\Bt q n l<=n:=by
 induction n generalizing l with
 |zero=>simp[Bt]
 |succ n j=>
  cases l with
  |nil=>simp[Bt]
  |cons c l=>
   have:=j l;unfold Bt
   split<;>simp<;>omega
theorem Si(q:Int->Bool)(v:q 0=false)(n k:Nat)(l:B8)(y:Bt q n l=k+Bt q (n-k) (l.drop k))(hn:k<n)(j:q (hd (l.drop k))=true):
 k<l.length/\Bt q n l=(k+1)+Bt q (n-(k+1)) (l.drop (k+1)):=by
 have z:k<l.length:=by apply Bj;intro h;rw[AA (by omega)]at j;simp[hd,v]at j
 refine⟨z,?_⟩;rw[Aa z]at y j;rw[y,show n-k=(n-(k+1))+1 by omega,Bt];simp[hd]at j;simp[j];omega
theorem Nq(q:Int->Bool)(n k:Nat)(l:B8)(z:Bt q n l=k+Bt q (n-k) (l.drop k))(hn:¬k<n\/q (hd (l.drop k))=false):Bt q n l=k:=by
 rw[z];rcases hn with hn|j
 ·rw[show n-k=0 by omega];simp[Bt]
 ·cases hm:n-k with
  |zero=>simp[Bt]
  |succ m=>
   cases hl:l.drop k with
   |nil=>simp[Bt]
   |cons c r=>rw[hl]at j;simp[hd]at j;simp[Bt,j]
theorem Eg(s:ByteArray)(i k:Nat):s.extract i (i+k)=bs ((s.data.toList.drop i).take k):=by rw[Lib.extract_eq,show i+k-i=k by omega];rfl
theorem Nz(s:ByteArray)(w:World)(q:s.size<=281474976710656):
 Calls prog 166 #[.string s] w fun e w'=>e=.returned (.string s)/\Below w.heap.size w w':=by
 go_enter func166,ntmps166;go_wp2_with (go_at_call 181;refine(Tryz.stringslite_Clone s _ q).mono ?_;rintro e w' ⟨rfl,hb⟩)
 go_ret
 exact⟨rfl,hb⟩
theorem dY(w:World)(b:Nat)(s:ByteArray)(i:Nat)(hR:Jc w b s i)(hi:i<=s.size)(hs:s.size<=281474976710656):
 Calls prog 133 #[.pointer (some ⟨b,0,none⟩),.func (.func 134) #[] #[]] w fun e w'=>e=.returned (.string (bs ((s.data.toList.drop i).take (Bt Ax 12 (s.data.toList.drop i)))))/\Jc w' b s (i+Bt Ax 12 (s.data.toList.drop i))/\Bg b w w':=by
 have d:s.size<=maxLen:=by unfold maxLen;omega
 have u:(s.data.toList.drop i).length=s.size-i:=by simp
 obtain⟨L,HL⟩:∃L,Hid (L=s.data.toList.drop i):=⟨_,rfl⟩;rw[<-HL.out]at u⊢;have x:=hR.c1;go_enter func133,ntmps133;go_wp2
 go_loopw [] (fun wr=>∃k:Nat,i+k<=s.size/\k<=12/\Jc wr b s (i+k)/\Bt Ax 12 L=k+Bt Ax (12-k) (L.drop k)/\Bg b w wr) (fun wr=>s.size-Zs wr b)
 case atStart=>exact⟨0,by omega,by omega,hR,by simp,Bg.refl _ _⟩
 case round=>
  clear x;obtain⟨k,f,q1,q,z,c⟩:=hrel;have a:=z;have j:Hid (Bt Ax 12 L=k+Bt Ax (12-k) (L.drop k)):=z;clear z a;have c0:=q.c0;have x:=q.c1;have f1:=q.f1;have g:pk s (i+k)=hd (L.drop k):=by rw[Qb,HL.out,GH]
  have m:Hid (pk s (i+k)=hd (L.drop k)):=g;clear g;by_cases y:k<12
  ·cases hf:Ax (pk s (i+k))
   ·have r:Hid (Bt Ax 12 L=k):=Nq Ax 12 k L j.out (.inr (by rw[<-m.out];exact hf));go_wp2_with (first|(go_at_call 131;refine(IK _ b s (i+k) (by exact q) f d).mono ?_;rintro e w' ⟨rfl,n,rfl⟩)|(go_at_call 134;refine(Gv _ _).mono ?_;rintro e w' ⟨rfl,rfl⟩))
    go_region_with (go_at_call 166;refine(Nz _ _ (by simp;omega)).mono ?_;rintro e w' ⟨rfl,hb⟩)
    all_goals go_wp2
    all_goals go_ret
    all_goals
     rw[r.out];exact⟨by rw[Eg,<-HL.out];rfl,Aw.below (Jc.drewN q _) hb,(c.bf _).trans (Bg.ab hb)⟩
   ·obtain⟨q2,t⟩:=Si Ax (by decide) 12 k L j.out y (by rw[<-m.out];exact hf);have p:Hid (Bt Ax 12 L=(k+1)+Bt Ax (12-(k+1)) (L.drop (k+1))):=t;clear t;go_wp2_with (first|(go_at_call 131;refine(IK _ b s (i+k) (by exact q) f d).mono ?_;rintro e w' ⟨rfl,n,rfl⟩)|(go_at_call 134;refine(Gv _ _).mono ?_;rintro e w' ⟨rfl,rfl⟩));have v:Jc ((wr.drewN n).setCell ⟨b,1,none⟩ (.int .i64 ((i:Int)+(k:Int)+1))) b s (i+(k+1)):=(q.drewN n).to (by omega);exact⟨⟨k+1,by omega,by omega,v,p.out,(c.bf _).set _ _⟩,by rw[v.pos,q.pos];omega⟩
  ·have r:Hid (Bt Ax 12 L=k):=Nq Ax 12 k L j.out (.inl y);have q0:¬((i:Int)+(k:Int)-(i:Int)<12):=by omega
   go_wp2
   go_region_with (go_at_call 166;refine(Nz _ _ (by simp;omega)).mono ?_;rintro e w' ⟨rfl,hb⟩)
   all_goals go_wp2
   all_goals go_ret
   all_goals
    rw[r.out];exact⟨by rw[Eg,<-HL.out];rfl,Aw.below (Jc.drewN q _) hb,(c.bf _).trans (Bg.ab hb)⟩
theorem dX(w:World)(b:Nat)(s:ByteArray)(i:Nat)(hR:Jc w b s i)(hi:i<=s.size)(hs:s.size<=281474976710656):
 Calls prog 133 #[.pointer (some ⟨b,0,none⟩),.func (.func 167) #[] #[]] w fun e w'=>e=.returned (.string (bs ((s.data.toList.drop i).take (Bt AI 12 (s.data.toList.drop i)))))/\Jc w' b s (i+Bt AI 12 (s.data.toList.drop i))/\Bg b w w':=by
 have d:s.size<=maxLen:=by unfold maxLen;omega
 have u:(s.data.toList.drop i).length=s.size-i:=by simp
 obtain⟨L,HL⟩:∃L,Hid (L=s.data.toList.drop i):=⟨_,rfl⟩;rw[<-HL.out]at u⊢;have x:=hR.c1;go_enter func133,ntmps133;go_wp2
 go_loopw [] (fun wr=>∃k:Nat,i+k<=s.size/\k<=12/\Jc wr b s (i+k)/\Bt AI 12 L=k+Bt AI (12-k) (L.drop k)/\Bg b w wr) (fun wr=>s.size-Zs wr b)
 case atStart=>exact⟨0,by omega,by omega,hR,by simp,Bg.refl _ _⟩
 case round=>
  clear x;obtain⟨k,f,q1,q,z,c⟩:=hrel;have a:=z;have j:Hid (Bt AI 12 L=k+Bt AI (12-k) (L.drop k)):=z;clear z a;have c0:=q.c0;have x:=q.c1;have f1:=q.f1;have g:pk s (i+k)=hd (L.drop k):=by rw[Qb,HL.out,GH]
  have m:Hid (pk s (i+k)=hd (L.drop k)):=g;clear g;by_cases y:k<12
  ·cases hf:AI (pk s (i+k))
   ·have r:Hid (Bt AI 12 L=k):=Nq AI 12 k L j.out (.inr (by rw[<-m.out];exact hf));go_wp2_with (first|(go_at_call 131;refine(IK _ b s (i+k) (by exact q) f d).mono ?_;rintro e w' ⟨rfl,n,rfl⟩)|(go_at_call 167;refine(Ix _ _).mono ?_;rintro e w' ⟨rfl,rfl⟩))
    go_region_with (go_at_call 166;refine(Nz _ _ (by simp;omega)).mono ?_;rintro e w' ⟨rfl,hb⟩)
    all_goals go_wp2
    all_goals go_ret
    all_goals
     rw[r.out];exact⟨by rw[Eg,<-HL.out];rfl,Aw.below (Jc.drewN q _) hb,(c.bf _).trans (Bg.ab hb)⟩
   ·obtain⟨q2,t⟩:=Si AI (by decide) 12 k L j.out y (by rw[<-m.out];exact hf);have p:Hid (Bt AI 12 L=(k+1)+Bt AI (12-(k+1)) (L.drop (k+1))):=t;clear t;go_wp2_with (first|(go_at_call 131;refine(IK _ b s (i+k) (by exact q) f d).mono ?_;rintro e w' ⟨rfl,n,rfl⟩)|(go_at_call 167;refine(Ix _ _).mono ?_;rintro e w' ⟨rfl,rfl⟩));have v:Jc ((wr.drewN n).setCell ⟨b,1,none⟩ (.int .i64 ((i:Int)+(k:Int)+1))) b s (i+(k+1)):=(q.drewN n).to (by omega);exact⟨⟨k+1,by omega,by omega,v,p.out,(c.bf _).set _ _⟩,by rw[v.pos,q.pos];omega⟩
  ·have r:Hid (Bt AI 12 L=k):=Nq AI 12 k L j.out (.inl y);have q0:¬((i:Int)+(k:Int)-(i:Int)<12):=by omega
   go_wp2
   go_region_with (go_at_call 166;refine(Nz _ _ (by simp;omega)).mono ?_;rintro e w' ⟨rfl,hb⟩)
   all_goals go_wp2
   all_goals go_ret
   all_goals
    rw[r.out];exact⟨by rw[Eg,<-HL.out];rfl,Aw.below (Jc.drewN q _) hb,(c.bf _).trans (Bg.ab hb)⟩
def Bn(s:ByteArray)(l:B8):Nat:=s.size-l.length
theorem Rd.at{w:World}{b:Nat}{s:ByteArray}{l:B8}(h:Rd w b s l):Jc w b s (Bn s l)/\Bn s l<=s.size/\s.data.toList.drop (Bn s l)=l:=by
 obtain⟨i,q,rfl,j⟩:=h;have e:Bn s (s.data.toList.drop i)=i:=by unfold Bn;simp;omega
 rw[e];exact⟨j,q,rfl⟩
theorem Rd.c0{w:World}{b:Nat}{s:ByteArray}{l:B8}(h:Rd w b s l):w.cell? ⟨b,0,none⟩=some (.string s):=h.at.1.c0
theorem Rd.c1{w:World}{b:Nat}{s:ByteArray}{l:B8}(h:Rd w b s l):w.cell? ⟨b,1,none⟩=some (.int .i64 (Bn s l)):=h.at.1.c1
theorem Rd.f1{w:World}{b:Nat}{s:ByteArray}{l:B8}(h:Rd w b s l):w.frozen? ⟨b,1,none⟩=false:=h.at.1.f1
theorem Rd.lt{w:World}{b:Nat}{s:ByteArray}{l:B8}(h:Rd w b s l):b<w.heap.size:=Aw.lt h.at.1
theorem Rd.drewN{w:World}{b:Nat}{s:ByteArray}{l:B8}(h:Rd w b s l)(n:Nat):Rd (w.drewN n) b s l:=h
theorem Rd.drew{w:World}{b:Nat}{s:ByteArray}{l:B8}(h:Rd w b s l):Rd w.drew b s l:=h
theorem Rd.alloc{w:World}{b:Nat}{s:ByteArray}{l:B8}(h:Rd w b s l)(o:Obj):Rd (w.alloc o) b s l:=by obtain⟨i,q,j,z⟩:=h;exact⟨i,q,j,Aw.alloc z o⟩
theorem Rd.setOther{w:World}{b:Nat}{s:ByteArray}{l:B8}(h:Rd w b s l)(p:Addr)(v:Value)(hn:b≠p.block):Rd (w.setCell p v) b s l:=by obtain⟨i,q,j,z⟩:=h;exact⟨i,q,j,Aw.setOther z p v hn⟩
theorem QM(w:World)(b:Nat)(s:ByteArray)(l:B8)(hR:Rd w b s l)(hs:s.size<=281474976710656):
 Calls prog 133 #[.pointer (some ⟨b,0,none⟩),.func (.func 134) #[] #[]] w fun e w'=>e=.returned (.string (bs (l.take (Bt Ax 12 l))))/\Rd w' b s (l.drop (Bt Ax 12 l))/\Bg b w w':=by
 obtain⟨i,j,rfl,z⟩:=hR;refine(dY w b s i z j hs).mono ?_;rintro e w' ⟨q,h1,h2⟩;refine⟨q,⟨_,?_,?_,h1⟩,h2⟩
 ·have:=(QO Ax 12 (s.data.toList.drop i)).1;simp at this;omega
 ·rw[GH]
theorem dW(w:World)(b:Nat)(s:ByteArray)(l:B8)(hR:Rd w b s l)(hs:s.size<=281474976710656):
 Calls prog 133 #[.pointer (some ⟨b,0,none⟩),.func (.func 167) #[] #[]] w fun e w'=>e=.returned (.string (bs (l.take (Bt AI 12 l))))/\Rd w' b s (l.drop (Bt AI 12 l))/\Bg b w w':=by
 obtain⟨i,j,rfl,z⟩:=hR;refine(dX w b s i z j hs).mono ?_;rintro e w' ⟨q,h1,h2⟩;refine⟨q,⟨_,?_,?_,h1⟩,h2⟩
 ·have:=(QO AI 12 (s.data.toList.drop i)).1;simp at this;omega
 ·rw[GH]
def Ep(l:B8):Bool:=small (hd (AD l))||CT (hd (AD l))
def Hc(l:B8):Nat:=if small (hd (AD l))=true then Bt Ax 12 (AD l) else if CT (hd (AD l))=true then Bt AI 12 (AD l) else 0
def BL(l:B8):B8:=(AD l).take (Hc l)
def Bw(l:B8):B8:=(AD l).drop (Hc l)
def MS(s:ByteArray)(l:B8):Value:=if Ep l=true then .tuple #[.int .i64 (Bn s (AD l)),.string (bs (BL l)),.bool true] else .tuple #[.int .i64 0,.string ⟨#[]⟩,.bool false]
theorem Zf(w:World)(b:Nat)(s:ByteArray)(l:B8)(hR:Rd w b s l)(hs:s.size<=281474976710656):
 Calls prog 135 #[.pointer (some ⟨b,0,none⟩)] w fun e w'=>e=.returned (MS s l)/\Rd w' b s (Bw l)/\Bg b w w':=by
 have j:s.size<=maxLen:=by unfold maxLen;omega
 obtain⟨m,k⟩:∃m,Hid (m=AD l):=⟨_,rfl⟩;cases h1:small (hd m)
 ·cases h2:CT (hd m)
  ·go_enter func135,ntmps135;go_wp2_with (first|(go_at_call 87;refine(Fu _ b s l (by exact hR) j).mono ?_;rintro e w1 ⟨rfl,q,z⟩;rw[<-k.out]at q;have u:=q.c1)|(go_at_call 131;refine(JZ _ b s m (by exact q) j).mono ?_;rintro e w' ⟨rfl,n,rfl⟩)|(go_at_call 132;refine(F3 _ _).mono ?_;rintro e w' ⟨rfl,rfl⟩)|(go_at_call 137;refine(Kw _ _).mono ?_;rintro e w' ⟨rfl,rfl⟩))
   go_ret3
   rw[k.out]at h1 h2 q;exact⟨by simp[MS,Ep,h1,h2],by simpa[Bw,Hc,h1,h2]using q.drewN _,z.bf _⟩
  ·go_enter func135,ntmps135;go_wp2_with (first|(go_at_call 87;refine(Fu _ b s l (by exact hR) j).mono ?_;rintro e w1 ⟨rfl,q,z⟩;rw[<-k.out]at q;have u:=q.c1)|(go_at_call 131;refine(JZ _ b s m (by exact q) j).mono ?_;rintro e w' ⟨rfl,n,rfl⟩)|(go_at_call 132;refine(F3 _ _).mono ?_;rintro e w' ⟨rfl,rfl⟩)|(go_at_call 137;refine(Kw _ _).mono ?_;rintro e w' ⟨rfl,rfl⟩)|(go_at_call 133;refine(dW _ b s m (by exact q) hs).mono ?_;rintro e w2 ⟨rfl,y,v⟩))
   go_ret3
   rw[k.out]at h1 h2 y;exact⟨by simp[MS,Ep,BL,Hc,h1,h2,k.out],by simpa[Bw,Hc,h1,h2]using y,(z.bf _).trans v⟩
 ·go_enter func135,ntmps135;go_wp2_with (first|(go_at_call 87;refine(Fu _ b s l (by exact hR) j).mono ?_;rintro e w1 ⟨rfl,q,z⟩;rw[<-k.out]at q;have u:=q.c1)|(go_at_call 131;refine(JZ _ b s m (by exact q) j).mono ?_;rintro e w' ⟨rfl,n,rfl⟩)|(go_at_call 132;refine(F3 _ _).mono ?_;rintro e w' ⟨rfl,rfl⟩)|(go_at_call 133;refine(QM _ b s m (by exact q) hs).mono ?_;rintro e w2 ⟨rfl,y,v⟩))
  go_ret3
  rw[k.out]at h1 y;exact⟨by simp[MS,Ep,BL,Hc,h1,k.out],by simpa[Bw,Hc,h1]using y,(z.bf _).trans v⟩
theorem NM(w:World)(b:Nat)(s:ByteArray)(l:B8)(hR:Rd w b s l)(hs:s.size<=281474976710656)(h:Ep l=true):
 Calls prog 135 #[.pointer (some ⟨b,0,none⟩)] w fun e w'=>e=.returned (.tuple #[.int .i64 (Bn s (AD l)),.string (bs (BL l)),.bool true])/\Rd w' b s (Bw l)/\Bg b w w':=by
 have:=Zf w b s l hR hs;rw[show MS s l=.tuple #[.int .i64 (Bn s (AD l)),.string (bs (BL l)),.bool true] by simp[MS,h]]at this;exact this
theorem Ze(w:World)(b:Nat)(s:ByteArray)(l:B8)(hR:Rd w b s l)(hs:s.size<=281474976710656)(h:Ep l=false):
 Calls prog 135 #[.pointer (some ⟨b,0,none⟩)] w fun e w'=>e=.returned (.tuple #[.int .i64 0,.string ⟨#[]⟩,.bool false])/\Rd w' b s (Bw l)/\Bg b w w':=by
 have:=Zf w b s l hR hs;rw[show MS s l=.tuple #[.int .i64 0,.string ⟨#[]⟩,.bool false] by simp[MS,h]]at this;exact this
theorem Ao{p:Prop}(h:p):Hid p:=h
theorem AE(w:World)(n:Nat)(o:Obj):(w.drewN n).alloc o=(w.alloc o).drewN n:=rfl
theorem As(w:World)(n:Nat)(a:Addr)(v:Value):(w.drewN n).setCell a v=(w.setCell a v).drewN n:=rfl
theorem Bg.bx{b:Nat}{u w:World}(h:Bg b u w):Bg b u w.drew:=h.trans (Bg.drew b w)
theorem Bg.bk{b:Nat}{u w:World}(h:Bg b u w)(A:Nat)(q:u.heap.size<=A)(x0 j z y x4:Value):
 Bg b u (((((w.setCell ⟨A,0,none⟩ x0).setCell ⟨A,1,none⟩ j).setCell ⟨A,2,none⟩ z).setCell ⟨A,3,none⟩ y).setCell ⟨A,4,none⟩ x4):=
 ((((h.ba (p:=⟨A,0,none⟩) q x0).ba (p:=⟨A,1,none⟩) q j).ba (p:=⟨A,2,none⟩) q z).ba (p:=⟨A,3,none⟩) q y).ba (p:=⟨A,4,none⟩) q x4
theorem Aw.eg{w:World}{b:Nat}{cs:List Value}{t:TypeId}(h:Aw w b cs t)(A:Nat)(q:b≠A)(x0 j z y x4:Value):
 Aw (((((w.setCell ⟨A,0,none⟩ x0).setCell ⟨A,1,none⟩ j).setCell ⟨A,2,none⟩ z).setCell ⟨A,3,none⟩ y).setCell ⟨A,4,none⟩ x4) b cs t:=
 ((((h.setOther ⟨A,0,none⟩ x0 q).setOther ⟨A,1,none⟩ j q).setOther ⟨A,2,none⟩ z q).setOther ⟨A,3,none⟩ y q).setOther ⟨A,4,none⟩ x4 q
end
end Go.Proofs.YtpbfiffgcgnidaaGreatDoor
