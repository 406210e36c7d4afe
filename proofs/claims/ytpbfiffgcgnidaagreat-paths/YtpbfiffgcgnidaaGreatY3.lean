import Derived.Test.YtpbfiffgcgnidaaGreatYal
import Derived.WalkKit
import Derived.WalkSpells
import Derived.WalkLawsBesides
import Derived.Deep.QuietTactic
import Derived.BigQuiet
import Derived.Deep.RegionWith
import Derived.BigRegion
import Derived.RegionTactic
import Derived.Lib.Strings
import Derived.Test.YtpbfiffgcgnidaaGreatRows
namespace Go.Proofs.YtpbfiffgcgnidaaGreat
set_option maxRecDepth 100000
set_option maxHeartbeats 4000000
open Go.Proofs.Tryz
section
open Go.RowKit
structure An(b:Nat)(w w':World):Prop where
 os:w'.os=w.os
 tape:w'.tape=w.tape
 output:w'.output=w.output
 size:w.heap.size<=w'.heap.size
 block:∀k,k<w.heap.size->k≠b->w'.heap[k]? =w.heap[k]?
theorem An.refl(b:Nat)(w:World):An b w w:=⟨rfl,rfl,rfl,Nat.le_refl _,fun _ _ _=>rfl⟩
theorem An.trans{b:Nat}{u v w:World}(h:An b u v)(k:An b v w):An b u w:=
 ⟨k.os.trans h.os,k.tape.trans h.tape,k.output.trans h.output,Nat.le_trans h.size k.size,fun i hi hn=>(k.block i (Nat.lt_of_lt_of_le hi h.size) hn).trans (h.block i hi hn)⟩
theorem An.drewN(b:Nat)(w:World)(n:Nat):An b w (w.drewN n):=⟨rfl,rfl,rfl,Nat.le_refl _,fun _ _ _=>rfl⟩
theorem An.drew(b:Nat)(w:World):An b w w.drew:=⟨rfl,rfl,rfl,Nat.le_refl _,fun _ _ _=>rfl⟩
theorem An.alloc(b:Nat)(w:World)(o:Obj):An b w (w.alloc o):=⟨rfl,rfl,rfl,by simp,fun k hk _=>Below.heap_alloc _ _ _ hk⟩
theorem An.setCell{b:Nat}(w:World){p:Addr}(hp:p.block=b)(u:Value):An b w (w.setCell p u):=
 ⟨rfl,rfl,rfl,by simp[World.setCell],fun k _ hn=>Below.heap_setCell _ _ _ _ (by omega)⟩
theorem An.setNew{b:Nat}{u w:World}(h:An b u w){p:Addr}(hp:u.heap.size<=p.block)(x:Value):An b u (w.setCell p x):=
 ⟨h.os,h.tape,h.output,by simp[World.setCell];exact h.size,fun k hk hn=>(Below.heap_setCell _ _ _ _ (by omega)).trans (h.block k hk hn)⟩
theorem An.draws{b:Nat}{u w:World}(h:An b u w)(n:Nat):An b u (w.drewN n):=⟨h.os,h.tape,h.output,h.size,h.block⟩
theorem An.set{b:Nat}{u w:World}(h:An b u w)(o:Nat)(x:Value):An b u (w.setCell ⟨b,o,none⟩ x):=h.trans (An.setCell (p:=⟨b,o,none⟩) w rfl x)
theorem An.allocs{b:Nat}{u w:World}(h:An b u w)(o:Obj):An b u (w.alloc o):=h.trans (An.alloc b w o)
theorem An.below{b B:Nat}{w w':World}(h:An b w w')(hB:B<=b)(hs:B<=w.heap.size):Below B w w':=
 ⟨h.os,h.tape,h.output,h.size,fun k hk=>h.block k (by omega) (by omega)⟩
theorem An.cell{b:Nat}{w w':World}(h:An b w w')(k o:Nat)(hk:k<w.heap.size)(hn:k≠b):w'.cell? ⟨k,o,none⟩=w.cell? ⟨k,o,none⟩:=World.cell?_of_block (w:=w) (h.block k hk hn)
theorem An.frozen{b:Nat}{w w':World}(h:An b w w')(k o:Nat)(hk:k<w.heap.size)(hn:k≠b):w'.frozen? ⟨k,o,none⟩=w.frozen? ⟨k,o,none⟩:=World.frozen?_of_block (w:=w) (h.block k hk hn)
theorem An.of_below{b:Nat}{w w':World}(h:Below w.heap.size w w'):An b w w':=⟨h.os,h.tape,h.output,h.size,fun k hk _=>h.block k hk⟩
def Ag(w:World)(b:Nat)(cs:List Value)(t:TypeId):Prop:=w.heap[b]? =some (.cells cs.toArray t (0,0))
theorem Ag.lt{w:World}{b:Nat}{cs:List Value}{t:TypeId}(h:Ag w b cs t):b<w.heap.size:=by unfold Ag at h;exact(Array.getElem?_eq_some_iff.1 h).1
theorem Ag.cell{w:World}{b:Nat}{cs:List Value}{t:TypeId}(h:Ag w b cs t)(o:Nat):w.cell? ⟨b,o,none⟩=cs[o]? :=by unfold Ag at h;simp[World.cell?,h]
theorem Ag.frozen{w:World}{b:Nat}{cs:List Value}{t:TypeId}(h:Ag w b cs t)(o:Nat):w.frozen? ⟨b,o,none⟩=false:=by unfold Ag at h;simp[World.frozen?,h]
theorem Ag.c5{w:World}{b:Nat}{x0 x1 x2 x3 x4:Value}{t:TypeId}(h:Ag w b [x0,x1,x2,x3,x4] t):
 w.cell? ⟨b,0,none⟩=some x0/\w.cell? ⟨b,1,none⟩=some x1/\w.cell? ⟨b,2,none⟩=some x2/\w.cell? ⟨b,3,none⟩=some x3/\w.cell? ⟨b,4,none⟩=some x4:=
 ⟨h.cell 0,h.cell 1,h.cell 2,h.cell 3,h.cell 4⟩
theorem Ag.c6{w:World}{b:Nat}{x0 x1 x2 x3 x4 x5:Value}{t:TypeId}(h:Ag w b [x0,x1,x2,x3,x4,x5] t):
 w.cell? ⟨b,0,none⟩=some x0/\w.cell? ⟨b,1,none⟩=some x1/\w.cell? ⟨b,2,none⟩=some x2/\w.cell? ⟨b,3,none⟩=some x3/\w.cell? ⟨b,4,none⟩=some x4/\w.cell? ⟨b,5,none⟩=some x5:=
 ⟨h.cell 0,h.cell 1,h.cell 2,h.cell 3,h.cell 4,h.cell 5⟩
theorem Ag.c7{w:World}{b:Nat}{x0 x1 x2 x3 x4 x5 x6:Value}{t:TypeId}(h:Ag w b [x0,x1,x2,x3,x4,x5,x6] t):
 w.cell? ⟨b,0,none⟩=some x0/\w.cell? ⟨b,1,none⟩=some x1/\w.cell? ⟨b,2,none⟩=some x2/\w.cell? ⟨b,3,none⟩=some x3/\w.cell? ⟨b,4,none⟩=some x4/\w.cell? ⟨b,5,none⟩=some x5/\w.cell? ⟨b,6,none⟩=some x6:=
 ⟨h.cell 0,h.cell 1,h.cell 2,h.cell 3,h.cell 4,h.cell 5,h.cell 6⟩
theorem Ag.kept{w w':World}{b c:Nat}{cs:List Value}{t:TypeId}(h:Ag w b cs t)(hk:An c w w')(hn:b≠c):Ag w' b cs t:=by unfold Ag at*;rw[hk.block b (Ag.lt (cs:=cs) (t:=t) h) hn,h]
theorem Ag.below{w w':World}{b:Nat}{cs:List Value}{t:TypeId}(h:Ag w b cs t)(hk:Below w.heap.size w w'):Ag w' b cs t:=by unfold Ag at*;rw[hk.block b (Ag.lt (cs:=cs) (t:=t) h),h]
theorem Ag.drewN{w:World}{b:Nat}{cs:List Value}{t:TypeId}(h:Ag w b cs t)(n:Nat):Ag (w.drewN n) b cs t:=h
theorem Ag.drew{w:World}{b:Nat}{cs:List Value}{t:TypeId}(h:Ag w b cs t):Ag w.drew b cs t:=h
theorem Ag.setCell{w:World}{b:Nat}{cs:List Value}{t:TypeId}(h:Ag w b cs t)(o:Nat)(v:Value):Ag (w.setCell ⟨b,o,none⟩ v) b (cs.set o v) t:=by unfold Ag at*;simp[World.setCell,Array.getElem?_modify,h]
theorem Ag.setOther{w:World}{b:Nat}{cs:List Value}{t:TypeId}(h:Ag w b cs t)(p:Addr)(v:Value)(hn:b≠p.block):Ag (w.setCell p v) b cs t:=by unfold Ag at*;rw[Below.heap_setCell _ _ _ _ hn,h]
theorem Ag.alloc{w:World}{b:Nat}{cs:List Value}{t:TypeId}(h:Ag w b cs t)(o:Obj):Ag (w.alloc o) b cs t:=by unfold Ag;rw[Below.heap_alloc _ _ _ h.lt];exact h
theorem Ag.new(w:World)(cs:List Value)(t:TypeId):Ag (w.alloc (.cells cs.toArray t)) w.heap.size cs t:=by unfold Ag;show(w.heap.push _)[w.heap.size]? =_;simp
def small(c:Int):Bool:=decide (97<=c)&&decide (c<=122)
def FQ(c:Int):Bool:=decide (65<=c)&&decide (c<=90)
def AF(c:Int):Bool:=small c||(decide (48<=c)&&decide (c<=57))
def A2(c:Int):Bool:=FQ c||AF c
theorem Cw(c:Int)(w:World):Calls prog 92 #[.int .u8 c] w fun e w'=>e=.returned (.bool (small c))/\w'=w:=by
 by_cases h1:97<=c<;>by_cases h2:c<=122
 all_goals
  go_enter func92,ntmps92;go_wp2
  go_ret
  exact⟨by simp[small,h1,h2],rfl⟩
theorem EA(c:Int)(w:World):Calls prog 78 #[.int .u8 c] w fun e w'=>e=.returned (.bool (FQ c))/\w'=w:=by
 by_cases h1:65<=c<;>by_cases h2:c<=90
 all_goals
  go_enter func78,ntmps78;go_wp2
  go_ret
  exact⟨by simp[FQ,h1,h2],rfl⟩
theorem CQ(c:Int)(w:World):Calls prog 94 #[.int .u8 c] w fun e w'=>e=.returned (.bool (AF c))/\w'=w:=by
 cases h0:small c
 ·by_cases h1:48<=c<;>by_cases h2:c<=57
  all_goals try (exfalso;omega)
  all_goals
   go_enter func94,ntmps94;go_wp2_with (go_at_call 92;refine(Cw _ _).mono ?_;rintro e w' ⟨rfl,rfl⟩)
   go_ret
   exact⟨by simp[AF,h0,h1,h2],rfl⟩
 ·go_enter func94,ntmps94;go_wp2_with (go_at_call 92;refine(Cw _ _).mono ?_;rintro e w' ⟨rfl,rfl⟩)
  go_ret
  exact⟨by simp[AF,h0],rfl⟩
theorem DD(c:Int)(w:World):Calls prog 126 #[.int .u8 c] w fun e w'=>e=.returned (.bool (A2 c))/\w'=w:=by
 cases h0:FQ c
 all_goals
  go_enter func126,ntmps126;go_wp2_with (first|(go_at_call 78;refine(EA _ _).mono ?_;rintro e w' ⟨rfl,rfl⟩)|(go_at_call 94;refine(CQ _ _).mono ?_;rintro e w' ⟨rfl,rfl⟩))
  go_ret
  exact⟨by simp[A2,h0],rfl⟩
def D0(w:World)(b:Nat)(s:ByteArray)(i:Nat):Prop:=Ag w b [.string s,.int .i64 i] 121
def pk(s:ByteArray)(i:Nat):Int:=if h:i<s.size then(s[i].toNat:Int) else 0
theorem D0.c0{w:World}{b:Nat}{s:ByteArray}{i:Nat}(h:D0 w b s i):w.cell? ⟨b,0,none⟩=some (.string s):=by rw[Ag.cell h];rfl
theorem D0.c1{w:World}{b:Nat}{s:ByteArray}{i:Nat}(h:D0 w b s i):w.cell? ⟨b,1,none⟩=some (.int .i64 i):=by rw[Ag.cell h];rfl
theorem D0.f1{w:World}{b:Nat}{s:ByteArray}{i:Nat}(h:D0 w b s i):w.frozen? ⟨b,1,none⟩=false:=Ag.frozen h 1
theorem DK(w:World)(b:Nat)(s:ByteArray)(i:Nat)(hR:D0 w b s i)(hi:i<=s.size)(hs:s.size<=maxLen):
 Calls prog 91 #[.pointer (some ⟨b,0,none⟩)] w fun e w'=>e=.returned (.int .u8 (pk s i))/\∃n,w'=w.drewN n:=by
 have c0:=hR.c0;have c1:=hR.c1;have hs':=hs;unfold maxLen at hs';by_cases h:i<s.size
 ·have hb:((i:Int)==(s.size:Int))=false:=by rw[beq_eq_false_iff_ne];omega
  go_enter func91,ntmps91;go_wp2
  go_quiet (fail)
  go_wp2
  go_quiet (fail)
  go_wp2
  go_ret
  exact⟨by simp[pk,h],_,World.drewN_drewN _ _ _⟩
 ·have hb:((i:Int)==(s.size:Int))=true:=by rw[beq_iff_eq];omega
  go_enter func91,ntmps91;go_wp2
  go_quiet (fail)
  go_wp2
  go_ret
  exact⟨by simp[pk,h],_,rfl⟩
theorem M4(m n:Nat):((m:Int)==(n:Int))=(m==n):=by rw[Bool.eq_iff_iff,beq_iff_eq,beq_iff_eq];omega
def DH(c:Int):Bool:=c==32||c==10
def Mp(w:World)(b:Nat):Nat:=(intOf ((w.cell? ⟨b,1,none⟩).getD .nilIface)).toNat
theorem D0.pos{w:World}{b:Nat}{s:ByteArray}{i:Nat}(h:D0 w b s i):Mp w b=i:=by simp[Mp,h.c1,intOf]
theorem D0.drewN{w:World}{b:Nat}{s:ByteArray}{i:Nat}(h:D0 w b s i)(n:Nat):D0 (w.drewN n) b s i:=h
theorem D0.to{w:World}{b:Nat}{s:ByteArray}{i:Nat}(h:D0 w b s i){j:Nat}{x:Int}(hx:x=j):D0 (w.setCell ⟨b,1,none⟩ (.int .i64 x)) b s j:=by subst hx;exact Ag.setCell h 1 _
theorem D0.next{w:World}{b:Nat}{s:ByteArray}{i:Nat}(h:D0 w b s i)(n:Nat):D0 ((w.drewN n).setCell ⟨b,1,none⟩ (.int .i64 ((i:Int)+1))) b s (i+1):=D0.to (h.drewN n) (by omega)
def ET(s:ByteArray)(i:Nat):Nat->Nat
 |0=>i
 |f+1=>if i<s.size/\DH (pk s i)=true then ET s (i+1) f else i
def skip(s:ByteArray)(i:Nat):Nat:=ET s i (s.size-i)
theorem K4(s:ByteArray)(f i:Nat)(h:i<=s.size):i<=ET s i f/\ET s i f<=s.size:=by
 induction f generalizing i with
 |zero=>exact⟨Nat.le_refl _,h⟩
 |succ f ih=>
  unfold ET
  split
  ·next hc=>have:=ih (i+1) (by omega);omega
  ·omega
theorem Ey(s:ByteArray)(i:Nat)(h:i<=s.size):i<=skip s i/\skip s i<=s.size:=K4 s _ i h
theorem Gi(s:ByteArray)(i:Nat)(h:i<s.size)(hb:DH (pk s i)=true):skip s i=skip s (i+1):=by unfold skip;rw[show s.size-i=(s.size-(i+1))+1 by omega,ET,if_pos ⟨h,hb⟩]
theorem H8(s:ByteArray)(i:Nat)(hb:DH (pk s i)=false):skip s i=i:=by
 unfold skip
 cases s.size-i with
 |zero=>rfl
 |succ n=>rw[ET,if_neg (by simp[hb])]
theorem FH(s:ByteArray)(i:Nat)(h:¬i<s.size):DH (pk s i)=false:=by simp[pk,h,DH]
theorem De(w:World)(b:Nat)(s:ByteArray)(i:Nat)(hR:D0 w b s i)(hi:i<=s.size)(hs:s.size<=maxLen):
 Calls prog 71 #[.pointer (some ⟨b,0,none⟩)] w fun e w'=>e=.returned (.tuple #[])/\D0 w' b s (skip s i)/\An b w w':=by
 have hs':=hs;unfold maxLen at hs';go_enter func71,ntmps71;go_wp2
 go_loopw [] (fun wr=>∃k:Nat,k<=s.size/\D0 wr b s k/\skip s k=skip s i/\An b w wr) (fun wr=>s.size-Mp wr b)
 case atStart=>exact⟨i,hi,hR,rfl,An.refl _ _⟩
 case round=>
  obtain⟨k,hk,hRk,hsk,hK⟩:=hrel;have c1:=hRk.c1;have f1:=hRk.f1;cases h1:(pk s k==32)
  ·cases h2:(pk s k==10)
   ·have HN:Hid (skip s k=k):=H8 s k (by simp[DH,h1,h2]);have HS:Hid (skip s k=skip s i):=hsk;clear hsk;go_wp2_with (go_at_call 91;refine(DK _ b s k (by exact hRk) hk hs).mono ?_;rintro e w' ⟨rfl,n,rfl⟩)
    go_end0
    refine⟨rfl,?_,?_⟩
    ·rw[<-HS.out,HN.out];exact hRk
    ·exact hK.draws _
   ·have hlt:k<s.size:=by apply Classical.byContradiction;intro h;have:=FH s k h;simp[DH,h2]at this
    have HN:Hid (skip s k=skip s (k+1)):=Gi s k hlt (by simp[DH,h2]);have HS:Hid (skip s k=skip s i):=hsk;clear hsk;go_wp2_with (go_at_call 91;refine(DK _ b s k (by exact hRk) hk hs).mono ?_;rintro e w' ⟨rfl,n,rfl⟩);exact⟨⟨k+1,hlt,hRk.next _,by rw[<-HS.out,HN.out],(hK.draws _).set _ _⟩,by rw[(hRk.next _).pos,hRk.pos];omega⟩
  ·have hlt:k<s.size:=by apply Classical.byContradiction;intro h;have:=FH s k h;simp[DH,h1]at this
   have HN:Hid (skip s k=skip s (k+1)):=Gi s k hlt (by simp[DH,h1]);have HS:Hid (skip s k=skip s i):=hsk;clear hsk;go_wp2_with (go_at_call 91;refine(DK _ b s k (by exact hRk) hk hs).mono ?_;rintro e w' ⟨rfl,n,rfl⟩);exact⟨⟨k+1,hlt,hRk.next _,by rw[<-HS.out,HN.out],(hK.draws _).set _ _⟩,by rw[(hRk.next _).pos,hRk.pos];omega⟩
def G6(s:ByteArray)(i:Nat)(m:Int):Bool:=pk s (skip s i)==m
def D1(s:ByteArray)(i:Nat)(m:Int):Nat:=if G6 s i m=true then skip s i+1 else skip s i
theorem Fx(s:ByteArray)(i:Nat)(m:Int)(h:(pk s i==m)=true)(hm:0<m):i<s.size:=by apply Classical.byContradiction;intro hn;simp[pk,hn]at h;omega
theorem K1(s:ByteArray)(i:Nat)(m:Int)(hm:0<m)(hi:i<=s.size):skip s i<=D1 s i m/\D1 s i m<=s.size:=by
 have:=Ey s i hi;unfold D1;cases h:G6 s i m
 ·simp;omega
 ·have:=Fx s (skip s i) m h hm;simp;omega
theorem ON(w:World)(b:Nat)(s:ByteArray)(i:Nat)(m:Int)(hR:D0 w b s i)(hi:i<=s.size)(hs:s.size<=maxLen)(hm:0<m):
 Calls prog 73 #[.pointer (some ⟨b,0,none⟩),.int .u8 m] w fun e w'=>e=.returned (.bool (G6 s i m))/\D0 w' b s (D1 s i m)/\An b w w':=by
 have hs':=hs;unfold maxLen at hs';have hsk:=Ey s i hi;cases h:(pk s (skip s i)==m)
 ·have hne:(pk s (skip s i) != m)=true:=by simp[bne,h]
  go_enter func73,ntmps73;go_wp2_with (first|(go_at_call 71;refine(De _ b s i (by exact hR) hi hs).mono ?_;rintro e w1 ⟨rfl,hR1,hK1⟩)|(go_at_call 91;refine(DK _ b s (skip s i) (by assumption) hsk.2 hs).mono ?_;rintro e w' ⟨rfl,n,rfl⟩))
  go_ret
  exact⟨by simp[G6,h],by simp[D1,G6,h];exact hR1,hK1.draws _⟩
 ·have hne:(pk s (skip s i) != m)=false:=by simp[bne,h]
  have hlt:=Fx s (skip s i) m h hm;go_enter func73,ntmps73;go_wp2_with (first|(go_at_call 71;refine(De _ b s i (by exact hR) hi hs).mono ?_;rintro e w1 ⟨rfl,hR1,hK1⟩;have c1:=hR1.c1;have f1:=hR1.f1)|(go_at_call 91;refine(DK _ b s (skip s i) (by assumption) hsk.2 hs).mono ?_;rintro e w' ⟨rfl,n,rfl⟩))
  go_ret
  refine⟨by simp[G6,h],?_,(hK1.draws _).set _ _⟩;simp only[D1,G6,h,if_pos];exact hR1.next _
theorem Ob(w:World)(b:Nat)(s:ByteArray)(i:Nat)(hR:D0 w b s i)(hi:i<=s.size)(hs:s.size<=maxLen):
 Calls prog 46 #[.pointer (some ⟨b,0,none⟩)] w fun e w'=>e=.returned (.bool (skip s i==s.size))/\D0 w' b s (skip s i)/\An b w w':=by
 have hs':=hs;unfold maxLen at hs';have hsk:=Ey s i hi;go_enter func46,ntmps46;go_wp2_with (go_at_call 71;refine(De _ b s i (by exact hR) hi hs).mono ?_;rintro e w1 ⟨rfl,hR1,hK1⟩;have c0:=hR1.c0;have c1:=hR1.c1)
 go_quiet (fail)
 go_wp2
 go_ret
 exact⟨by rw[M4];rfl,hR1,hK1.draws _⟩
end
end Go.Proofs.YtpbfiffgcgnidaaGreat
