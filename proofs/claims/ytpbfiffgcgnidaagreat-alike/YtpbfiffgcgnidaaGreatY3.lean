import Derived.Test.YtpbfiffgcgnidaaGreatYal
import Derived.WalkKit
import Derived.WalkSpells
import Derived.WalkLawsBesides
import Derived.Deep.QuietTactic
import Derived.BigQuiet
import Derived.Deep.RegionWith
import Derived.BigRegion
import Derived.RegionTactic
import Derived.Lib.Strings
import Derived.Test.YtpbfiffgcgnidaaGreatRows
namespace Go.Proofs.YtpbfiffgcgnidaaGreat
set_option maxRecDepth 100000
set_option maxHeartbeats 4000000
open Go.Proofs.Tryz
section
open Go.RowKit
structure Kept(b:Nat)(w w':World):Prop where
 os:w'.os=w.os
 tape:w'.tape=w.tape
 output:w'.output=w.output
 size:w.heap.size<=w'.heap.size
 block:∀k,k<w.heap.size->k≠b->w'.heap[k]? =w.heap[k]?
theorem Kept.refl(b:Nat)(w:World):Kept b w w:=⟨rfl,rfl,rfl,Nat.le_refl _,fun _ _ _=>rfl⟩
theorem Kept.trans{b:Nat}{u v w:World}(h:Kept b u v)(k:Kept b v w):Kept b u w:=
 ⟨k.os.trans h.os,k.tape.trans h.tape,k.output.trans h.output,Nat.le_trans h.size k.size,fun i hi hn=>(k.block i (Nat.lt_of_lt_of_le hi h.size) hn).trans (h.block i hi hn)⟩
theorem Kept.drewN(b:Nat)(w:World)(n:Nat):Kept b w (w.drewN n):=⟨rfl,rfl,rfl,Nat.le_refl _,fun _ _ _=>rfl⟩
theorem Kept.drew(b:Nat)(w:World):Kept b w w.drew:=⟨rfl,rfl,rfl,Nat.le_refl _,fun _ _ _=>rfl⟩
theorem Kept.alloc(b:Nat)(w:World)(o:Obj):Kept b w (w.alloc o):=⟨rfl,rfl,rfl,by simp,fun k hk _=>Below.heap_alloc _ _ _ hk⟩
theorem Kept.setCell{b:Nat}(w:World){p:Addr}(hp:p.block=b)(u:Value):Kept b w (w.setCell p u):=
 ⟨rfl,rfl,rfl,by simp[World.setCell],fun k _ hn=>Below.heap_setCell _ _ _ _ (by omega)⟩
theorem Kept.setNew{b:Nat}{u w:World}(h:Kept b u w){p:Addr}(hp:u.heap.size<=p.block)(x:Value):Kept b u (w.setCell p x):=
 ⟨h.os,h.tape,h.output,by simp[World.setCell];exact h.size,fun k hk hn=>(Below.heap_setCell _ _ _ _ (by omega)).trans (h.block k hk hn)⟩
theorem Kept.draws{b:Nat}{u w:World}(h:Kept b u w)(n:Nat):Kept b u (w.drewN n):=⟨h.os,h.tape,h.output,h.size,h.block⟩
theorem Kept.set{b:Nat}{u w:World}(h:Kept b u w)(o:Nat)(x:Value):Kept b u (w.setCell ⟨b,o,none⟩ x):=h.trans (Kept.setCell (p:=⟨b,o,none⟩) w rfl x)
theorem Kept.allocs{b:Nat}{u w:World}(h:Kept b u w)(o:Obj):Kept b u (w.alloc o):=h.trans (Kept.alloc b w o)
theorem Kept.below{b B:Nat}{w w':World}(h:Kept b w w')(hB:B<=b)(hs:B<=w.heap.size):Below B w w':=
 ⟨h.os,h.tape,h.output,h.size,fun k hk=>h.block k (by omega) (by omega)⟩
theorem Kept.cell{b:Nat}{w w':World}(h:Kept b w w')(k o:Nat)(hk:k<w.heap.size)(hn:k≠b):w'.cell? ⟨k,o,none⟩=w.cell? ⟨k,o,none⟩:=World.cell?_of_block (w:=w) (h.block k hk hn)
theorem Kept.frozen{b:Nat}{w w':World}(h:Kept b w w')(k o:Nat)(hk:k<w.heap.size)(hn:k≠b):w'.frozen? ⟨k,o,none⟩=w.frozen? ⟨k,o,none⟩:=World.frozen?_of_block (w:=w) (h.block k hk hn)
theorem Kept.of_below{b:Nat}{w w':World}(h:Below w.heap.size w w'):Kept b w w':=⟨h.os,h.tape,h.output,h.size,fun k hk _=>h.block k hk⟩
def Blk(w:World)(b:Nat)(cs:List Value)(t:TypeId):Prop:=w.heap[b]? =some (.cells cs.toArray t (0,0))
theorem Blk.lt{w:World}{b:Nat}{cs:List Value}{t:TypeId}(h:Blk w b cs t):b<w.heap.size:=by unfold Blk at h;exact(Array.getElem?_eq_some_iff.1 h).1
theorem Blk.cell{w:World}{b:Nat}{cs:List Value}{t:TypeId}(h:Blk w b cs t)(o:Nat):w.cell? ⟨b,o,none⟩=cs[o]? :=by unfold Blk at h;simp[World.cell?,h]
theorem Blk.frozen{w:World}{b:Nat}{cs:List Value}{t:TypeId}(h:Blk w b cs t)(o:Nat):w.frozen? ⟨b,o,none⟩=false:=by unfold Blk at h;simp[World.frozen?,h]
theorem Blk.c5{w:World}{b:Nat}{x0 x1 x2 x3 x4:Value}{t:TypeId}(h:Blk w b [x0,x1,x2,x3,x4] t):
 w.cell? ⟨b,0,none⟩=some x0/\w.cell? ⟨b,1,none⟩=some x1/\w.cell? ⟨b,2,none⟩=some x2/\w.cell? ⟨b,3,none⟩=some x3/\w.cell? ⟨b,4,none⟩=some x4:=
 ⟨h.cell 0,h.cell 1,h.cell 2,h.cell 3,h.cell 4⟩
theorem Blk.c6{w:World}{b:Nat}{x0 x1 x2 x3 x4 x5:Value}{t:TypeId}(h:Blk w b [x0,x1,x2,x3,x4,x5] t):
 w.cell? ⟨b,0,none⟩=some x0/\w.cell? ⟨b,1,none⟩=some x1/\w.cell? ⟨b,2,none⟩=some x2/\w.cell? ⟨b,3,none⟩=some x3/\w.cell? ⟨b,4,none⟩=some x4/\w.cell? ⟨b,5,none⟩=some x5:=
 ⟨h.cell 0,h.cell 1,h.cell 2,h.cell 3,h.cell 4,h.cell 5⟩
theorem Blk.c7{w:World}{b:Nat}{x0 x1 x2 x3 x4 x5 x6:Value}{t:TypeId}(h:Blk w b [x0,x1,x2,x3,x4,x5,x6] t):
 w.cell? ⟨b,0,none⟩=some x0/\w.cell? ⟨b,1,none⟩=some x1/\w.cell? ⟨b,2,none⟩=some x2/\w.cell? ⟨b,3,none⟩=some x3/\w.cell? ⟨b,4,none⟩=some x4/\w.cell? ⟨b,5,none⟩=some x5/\w.cell? ⟨b,6,none⟩=some x6:=
 ⟨h.cell 0,h.cell 1,h.cell 2,h.cell 3,h.cell 4,h.cell 5,h.cell 6⟩
theorem Blk.kept{w w':World}{b c:Nat}{cs:List Value}{t:TypeId}(h:Blk w b cs t)(hk:Kept c w w')(hn:b≠c):Blk w' b cs t:=by unfold Blk at*;rw[hk.block b (Blk.lt (cs:=cs) (t:=t) h) hn,h]
theorem Blk.below{w w':World}{b:Nat}{cs:List Value}{t:TypeId}(h:Blk w b cs t)(hk:Below w.heap.size w w'):Blk w' b cs t:=by unfold Blk at*;rw[hk.block b (Blk.lt (cs:=cs) (t:=t) h),h]
theorem Blk.drewN{w:World}{b:Nat}{cs:List Value}{t:TypeId}(h:Blk w b cs t)(n:Nat):Blk (w.drewN n) b cs t:=h
theorem Blk.drew{w:World}{b:Nat}{cs:List Value}{t:TypeId}(h:Blk w b cs t):Blk w.drew b cs t:=h
theorem Blk.setCell{w:World}{b:Nat}{cs:List Value}{t:TypeId}(h:Blk w b cs t)(o:Nat)(v:Value):Blk (w.setCell ⟨b,o,none⟩ v) b (cs.set o v) t:=by unfold Blk at*;simp[World.setCell,Array.getElem?_modify,h]
theorem Blk.setOther{w:World}{b:Nat}{cs:List Value}{t:TypeId}(h:Blk w b cs t)(p:Addr)(v:Value)(hn:b≠p.block):Blk (w.setCell p v) b cs t:=by unfold Blk at*;rw[Below.heap_setCell _ _ _ _ hn,h]
theorem Blk.alloc{w:World}{b:Nat}{cs:List Value}{t:TypeId}(h:Blk w b cs t)(o:Obj):Blk (w.alloc o) b cs t:=by unfold Blk;rw[Below.heap_alloc _ _ _ h.lt];exact h
theorem Blk.new(w:World)(cs:List Value)(t:TypeId):Blk (w.alloc (.cells cs.toArray t)) w.heap.size cs t:=by unfold Blk;show(w.heap.push _)[w.heap.size]? =_;simp
def small(c:Int):Bool:=decide (97<=c)&&decide (c<=122)
def great(c:Int):Bool:=decide (65<=c)&&decide (c<=90)
def smallDig(c:Int):Bool:=small c||(decide (48<=c)&&decide (c<=57))
def letterDig(c:Int):Bool:=great c||smallDig c
theorem isSmall_c(c:Int)(w:World):Calls prog 92 #[.int .u8 c] w fun e w'=>e=.returned (.bool (small c))/\w'=w:=by
 by_cases h1:97<=c<;>by_cases h2:c<=122
 all_goals
  go_enter func92,ntmps92;go_wp2
  go_ret
  exact⟨by simp[small,h1,h2],rfl⟩
theorem isGreat_c(c:Int)(w:World):Calls prog 78 #[.int .u8 c] w fun e w'=>e=.returned (.bool (great c))/\w'=w:=by
 by_cases h1:65<=c<;>by_cases h2:c<=90
 all_goals
  go_enter func78,ntmps78;go_wp2
  go_ret
  exact⟨by simp[great,h1,h2],rfl⟩
theorem isSmallOrDigit_c(c:Int)(w:World):Calls prog 94 #[.int .u8 c] w fun e w'=>e=.returned (.bool (smallDig c))/\w'=w:=by
 cases h0:small c
 ·by_cases h1:48<=c<;>by_cases h2:c<=57
  all_goals try (exfalso;omega)
  all_goals
   go_enter func94,ntmps94;go_wp2_with (go_at_call 92;refine(isSmall_c _ _).mono ?_;rintro e w' ⟨rfl,rfl⟩)
   go_ret
   exact⟨by simp[smallDig,h0,h1,h2],rfl⟩
 ·go_enter func94,ntmps94;go_wp2_with (go_at_call 92;refine(isSmall_c _ _).mono ?_;rintro e w' ⟨rfl,rfl⟩)
  go_ret
  exact⟨by simp[smallDig,h0],rfl⟩
theorem isLetterOrDigit_c(c:Int)(w:World):Calls prog 126 #[.int .u8 c] w fun e w'=>e=.returned (.bool (letterDig c))/\w'=w:=by
 cases h0:great c
 all_goals
  go_enter func126,ntmps126;go_wp2_with (first|(go_at_call 78;refine(isGreat_c _ _).mono ?_;rintro e w' ⟨rfl,rfl⟩)|(go_at_call 94;refine(isSmallOrDigit_c _ _).mono ?_;rintro e w' ⟨rfl,rfl⟩))
  go_ret
  exact⟨by simp[letterDig,h0],rfl⟩
def Rdr(w:World)(b:Nat)(s:ByteArray)(i:Nat):Prop:=Blk w b [.string s,.int .i64 i] 121
def pk(s:ByteArray)(i:Nat):Int:=if h:i<s.size then(s[i].toNat:Int) else 0
theorem Rdr.c0{w:World}{b:Nat}{s:ByteArray}{i:Nat}(h:Rdr w b s i):w.cell? ⟨b,0,none⟩=some (.string s):=by rw[Blk.cell h];rfl
theorem Rdr.c1{w:World}{b:Nat}{s:ByteArray}{i:Nat}(h:Rdr w b s i):w.cell? ⟨b,1,none⟩=some (.int .i64 i):=by rw[Blk.cell h];rfl
theorem Rdr.f1{w:World}{b:Nat}{s:ByteArray}{i:Nat}(h:Rdr w b s i):w.frozen? ⟨b,1,none⟩=false:=Blk.frozen h 1
theorem peek_c(w:World)(b:Nat)(s:ByteArray)(i:Nat)(hR:Rdr w b s i)(hi:i<=s.size)(hs:s.size<=maxLen):
 Calls prog 91 #[.pointer (some ⟨b,0,none⟩)] w fun e w'=>e=.returned (.int .u8 (pk s i))/\∃n,w'=w.drewN n:=by
 have c0:=hR.c0;have c1:=hR.c1;have hs':=hs;unfold maxLen at hs';by_cases h:i<s.size
 ·have hb:((i:Int)==(s.size:Int))=false:=by rw[beq_eq_false_iff_ne];omega
  go_enter func91,ntmps91;go_wp2
  go_quiet (fail)
  go_wp2
  go_quiet (fail)
  go_wp2
  go_ret
  exact⟨by simp[pk,h],_,World.drewN_drewN _ _ _⟩
 ·have hb:((i:Int)==(s.size:Int))=true:=by rw[beq_iff_eq];omega
  go_enter func91,ntmps91;go_wp2
  go_quiet (fail)
  go_wp2
  go_ret
  exact⟨by simp[pk,h],_,rfl⟩
theorem cast_beq(m n:Nat):((m:Int)==(n:Int))=(m==n):=by rw[Bool.eq_iff_iff,beq_iff_eq,beq_iff_eq];omega
def blank(c:Int):Bool:=c==32||c==10
def rpos(w:World)(b:Nat):Nat:=(intOf ((w.cell? ⟨b,1,none⟩).getD .nilIface)).toNat
theorem Rdr.pos{w:World}{b:Nat}{s:ByteArray}{i:Nat}(h:Rdr w b s i):rpos w b=i:=by simp[rpos,h.c1,intOf]
theorem Rdr.drewN{w:World}{b:Nat}{s:ByteArray}{i:Nat}(h:Rdr w b s i)(n:Nat):Rdr (w.drewN n) b s i:=h
theorem Rdr.to{w:World}{b:Nat}{s:ByteArray}{i:Nat}(h:Rdr w b s i){j:Nat}{x:Int}(hx:x=j):Rdr (w.setCell ⟨b,1,none⟩ (.int .i64 x)) b s j:=by subst hx;exact Blk.setCell h 1 _
theorem Rdr.next{w:World}{b:Nat}{s:ByteArray}{i:Nat}(h:Rdr w b s i)(n:Nat):Rdr ((w.drewN n).setCell ⟨b,1,none⟩ (.int .i64 ((i:Int)+1))) b s (i+1):=Rdr.to (h.drewN n) (by omega)
def skipTo(s:ByteArray)(i:Nat):Nat->Nat
 |0=>i
 |f+1=>if i<s.size/\blank (pk s i)=true then skipTo s (i+1) f else i
def skip(s:ByteArray)(i:Nat):Nat:=skipTo s i (s.size-i)
theorem skipTo_le(s:ByteArray)(f i:Nat)(h:i<=s.size):i<=skipTo s i f/\skipTo s i f<=s.size:=by
 induction f generalizing i with
 |zero=>exact⟨Nat.le_refl _,h⟩
 |succ f ih=>
  unfold skipTo
  split
  ·next hc=>have:=ih (i+1) (by omega);omega
  ·omega
theorem skip_le(s:ByteArray)(i:Nat)(h:i<=s.size):i<=skip s i/\skip s i<=s.size:=skipTo_le s _ i h
theorem skip_yes(s:ByteArray)(i:Nat)(h:i<s.size)(hb:blank (pk s i)=true):skip s i=skip s (i+1):=by unfold skip;rw[show s.size-i=(s.size-(i+1))+1 by omega,skipTo,if_pos ⟨h,hb⟩]
theorem skip_no(s:ByteArray)(i:Nat)(hb:blank (pk s i)=false):skip s i=i:=by
 unfold skip
 cases s.size-i with
 |zero=>rfl
 |succ n=>rw[skipTo,if_neg (by simp[hb])]
theorem blank_end(s:ByteArray)(i:Nat)(h:¬i<s.size):blank (pk s i)=false:=by simp[pk,h,blank]
theorem skipBlanks_c(w:World)(b:Nat)(s:ByteArray)(i:Nat)(hR:Rdr w b s i)(hi:i<=s.size)(hs:s.size<=maxLen):
 Calls prog 71 #[.pointer (some ⟨b,0,none⟩)] w fun e w'=>e=.returned (.tuple #[])/\Rdr w' b s (skip s i)/\Kept b w w':=by
 have hs':=hs;unfold maxLen at hs';go_enter func71,ntmps71;go_wp2
 go_loopw [] (fun wr=>∃k:Nat,k<=s.size/\Rdr wr b s k/\skip s k=skip s i/\Kept b w wr) (fun wr=>s.size-rpos wr b)
 case atStart=>exact⟨i,hi,hR,rfl,Kept.refl _ _⟩
 case round=>
  obtain⟨k,hk,hRk,hsk,hK⟩:=hrel;have c1:=hRk.c1;have f1:=hRk.f1;cases h1:(pk s k==32)
  ·cases h2:(pk s k==10)
   ·have HN:Hid (skip s k=k):=skip_no s k (by simp[blank,h1,h2]);have HS:Hid (skip s k=skip s i):=hsk;clear hsk;go_wp2_with (go_at_call 91;refine(peek_c _ b s k (by exact hRk) hk hs).mono ?_;rintro e w' ⟨rfl,n,rfl⟩)
    go_end0
    refine⟨rfl,?_,?_⟩
    ·rw[<-HS.out,HN.out];exact hRk
    ·exact hK.draws _
   ·have hlt:k<s.size:=by apply Classical.byContradiction;intro h;have:=blank_end s k h;simp[blank,h2]at this
    have HN:Hid (skip s k=skip s (k+1)):=skip_yes s k hlt (by simp[blank,h2]);have HS:Hid (skip s k=skip s i):=hsk;clear hsk;go_wp2_with (go_at_call 91;refine(peek_c _ b s k (by exact hRk) hk hs).mono ?_;rintro e w' ⟨rfl,n,rfl⟩);exact⟨⟨k+1,hlt,hRk.next _,by rw[<-HS.out,HN.out],(hK.draws _).set _ _⟩,by rw[(hRk.next _).pos,hRk.pos];omega⟩
  ·have hlt:k<s.size:=by apply Classical.byContradiction;intro h;have:=blank_end s k h;simp[blank,h1]at this
   have HN:Hid (skip s k=skip s (k+1)):=skip_yes s k hlt (by simp[blank,h1]);have HS:Hid (skip s k=skip s i):=hsk;clear hsk;go_wp2_with (go_at_call 91;refine(peek_c _ b s k (by exact hRk) hk hs).mono ?_;rintro e w' ⟨rfl,n,rfl⟩);exact⟨⟨k+1,hlt,hRk.next _,by rw[<-HS.out,HN.out],(hK.draws _).set _ _⟩,by rw[(hRk.next _).pos,hRk.pos];omega⟩
def took(s:ByteArray)(i:Nat)(m:Int):Bool:=pk s (skip s i)==m
def tookAt(s:ByteArray)(i:Nat)(m:Int):Nat:=if took s i m=true then skip s i+1 else skip s i
theorem pk_pos_lt(s:ByteArray)(i:Nat)(m:Int)(h:(pk s i==m)=true)(hm:0<m):i<s.size:=by apply Classical.byContradiction;intro hn;simp[pk,hn]at h;omega
theorem tookAt_le(s:ByteArray)(i:Nat)(m:Int)(hm:0<m)(hi:i<=s.size):skip s i<=tookAt s i m/\tookAt s i m<=s.size:=by
 have:=skip_le s i hi;unfold tookAt;cases h:took s i m
 ·simp;omega
 ·have:=pk_pos_lt s (skip s i) m h hm;simp;omega
theorem take_c(w:World)(b:Nat)(s:ByteArray)(i:Nat)(m:Int)(hR:Rdr w b s i)(hi:i<=s.size)(hs:s.size<=maxLen)(hm:0<m):
 Calls prog 73 #[.pointer (some ⟨b,0,none⟩),.int .u8 m] w fun e w'=>e=.returned (.bool (took s i m))/\Rdr w' b s (tookAt s i m)/\Kept b w w':=by
 have hs':=hs;unfold maxLen at hs';have hsk:=skip_le s i hi;cases h:(pk s (skip s i)==m)
 ·have hne:(pk s (skip s i) != m)=true:=by simp[bne,h]
  go_enter func73,ntmps73;go_wp2_with (first|(go_at_call 71;refine(skipBlanks_c _ b s i (by exact hR) hi hs).mono ?_;rintro e w1 ⟨rfl,hR1,hK1⟩)|(go_at_call 91;refine(peek_c _ b s (skip s i) (by assumption) hsk.2 hs).mono ?_;rintro e w' ⟨rfl,n,rfl⟩))
  go_ret
  exact⟨by simp[took,h],by simp[tookAt,took,h];exact hR1,hK1.draws _⟩
 ·have hne:(pk s (skip s i) != m)=false:=by simp[bne,h]
  have hlt:=pk_pos_lt s (skip s i) m h hm;go_enter func73,ntmps73;go_wp2_with (first|(go_at_call 71;refine(skipBlanks_c _ b s i (by exact hR) hi hs).mono ?_;rintro e w1 ⟨rfl,hR1,hK1⟩;have c1:=hR1.c1;have f1:=hR1.f1)|(go_at_call 91;refine(peek_c _ b s (skip s i) (by assumption) hsk.2 hs).mono ?_;rintro e w' ⟨rfl,n,rfl⟩))
  go_ret
  refine⟨by simp[took,h],?_,(hK1.draws _).set _ _⟩;simp only[tookAt,took,h,if_pos];exact hR1.next _
theorem atEnd_c(w:World)(b:Nat)(s:ByteArray)(i:Nat)(hR:Rdr w b s i)(hi:i<=s.size)(hs:s.size<=maxLen):
 Calls prog 46 #[.pointer (some ⟨b,0,none⟩)] w fun e w'=>e=.returned (.bool (skip s i==s.size))/\Rdr w' b s (skip s i)/\Kept b w w':=by
 have hs':=hs;unfold maxLen at hs';have hsk:=skip_le s i hi;go_enter func46,ntmps46;go_wp2_with (go_at_call 71;refine(skipBlanks_c _ b s i (by exact hR) hi hs).mono ?_;rintro e w1 ⟨rfl,hR1,hK1⟩;have c0:=hR1.c0;have c1:=hR1.c1)
 go_quiet (fail)
 go_wp2
 go_ret
 exact⟨by rw[cast_beq];rfl,hR1,hK1.draws _⟩
end
end Go.Proofs.YtpbfiffgcgnidaaGreat
