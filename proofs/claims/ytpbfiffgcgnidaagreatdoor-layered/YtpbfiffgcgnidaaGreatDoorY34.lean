import Derived.Test.YtpbfiffgcgnidaaGreatDoorYal
import Derived.Test.YtpbfiffgcgnidaaGreatDoorY32
import Derived.Test.YtpbfiffgcgnidaaGreatDoorY33
namespace Go.Proofs.YtpbfiffgcgnidaaGreatDoor
set_option maxRecDepth 100000
set_option maxHeartbeats 4000000
set_option linter.unusedSimpArgs false
section
def iR(cs:List RC):Prop:=∀p n,M9 (BJ cs) p p n->n=0
theorem M9.neg{E:List Dw}{p q:B8}{n:Nat}(h:M9 E p q n)(hn:n≠0):∃e∈E,e.n=true/\(∃m,M9 E p e.h m)/\∃m,M9 E e.b q m:=by
 obtain⟨k,z⟩:=h
 induction k generalizing p n with
 |zero=>obtain⟨rfl,rfl⟩:=z;exact absurd rfl hn
 |succ k u=>
  obtain⟨e,j,x,rfl,rfl,hx⟩:=z
  cases hen:e.n with
  |true=>exact⟨e,j,hen,⟨0,M9.nil _⟩,⟨x,k,hx⟩⟩
  |false=>
   have hw:e.w=0:=by unfold Dw.w;rw[hen];rfl
   obtain⟨y,v,h1,⟨m,h2⟩,h3⟩:=u (n:=x) (by omega) hx;exact⟨y,v,h1,⟨_,M9.cons e j _ _ h2⟩,h3⟩
theorem Rm(ds:List Bd)(p:B8):∀x∈D8 ds p,∀y,Lt ds x y->y∈D8 ds p:=by refine KR ds (Eb ds p) (ZV ds p) _ 0 (by omega) [p] ⟨by simp,?_⟩ (by intro j hj;omega);intro x hx;simp at hx;subst hx;simp[Eb]
theorem Vc(ds:List Bd)(p:B8):p∈D8 ds p:=N7 ds _ _ _ p (by simp)
theorem XL(cs:List RC)(x:B8){p q:B8}{n:Nat}(h:M9 (BJ cs) p q n)(z:p∈D8 (cs.map RC.d) x):q∈D8 (cs.map RC.d) x:=by
 obtain⟨k,j⟩:=h
 induction k generalizing p n with
 |zero=>obtain⟨rfl,rfl⟩:=j;exact z
 |succ k b=>obtain⟨e,u,y,rfl,rfl,g⟩:=j;obtain⟨c,hc,a,v,rfl⟩:=Ks.1 u;exact b (Rm _ _ _ z _ ⟨c.d,List.mem_map.2 ⟨c,hc,rfl⟩,rfl,a.lit,List.mem_map.2 ⟨a,v,rfl⟩,rfl⟩) g
theorem Q9(cs:List RC)(c:RC)(b:List RA)(h:Fv cs c b=none):∀a∈b,a.neg=true->c.head.name∉D8 (cs.map RC.d) a.name:=by
 induction b with
 |nil=>simp
 |cons x r z=>
  rw[Fv]at h
  split at h
  ·simp at h
  ·rename_i hx;intro a q hn j;rcases List.mem_cons.1 q with rfl|q
   ·apply hx;rw[hn,BD];unfold BZ;exact List.contains_iff_mem.2 j
   ·exact z h a q hn j
theorem SR(cs l:List RC)(h:DY cs l=none):∀c∈l,∀a∈c.body,a.neg=true->c.head.name∉D8 (cs.map RC.d) a.name:=by
 induction l with
 |nil=>simp
 |cons x r q=>
  rw[DY,Jd]at h;intro c hc;rcases List.mem_cons.1 hc with rfl|hc
  ·exact Q9 cs c c.body h.1
  ·exact q h.2 c hc
theorem TH(cs:List RC)(h:DY cs cs=none):iR cs:=by intro p n y;apply Bj;intro hn;obtain⟨e,z,q,⟨m,h1⟩,⟨k,h2⟩⟩:=y.neg hn;obtain⟨c,hc,a,j,rfl⟩:=Ks.1 z;exact SR cs cs h c hc a j q (XL cs a.name (h2.trans h1) (Vc _ _))
theorem RG(cs:List RC)(s:ByteArray):BJ (CS cs s).2=BJ cs:=by
 unfold CS
 split
 ·rfl
 ·split
  ·rfl
  ·split
   ·rfl
   ·split
    ·rfl
    ·split
     ·rfl
     ·simp[BJ,RC.ai]
theorem RF(cs:List RC)(x:B8):BJ (cs.filter (EH x))=BJ cs:=by
 induction cs with
 |nil=>rfl
 |cons c r q=>
  rw[G2]
  split
  ·show RC.ai c++BJ _=RC.ai c++BJ r;rw[q]
  ·rename_i hc;rw[q];show BJ r=RC.ai c++BJ r;have hb:c.body=[]:=by unfold EH at hc;simp at hc;exact hc.1
   simp[RC.ai,hb]
theorem PF(cs:List RC)(s:ByteArray):BJ (Cx cs s).2=BJ cs:=by
 unfold Cx
 split
 ·rfl
 ·split
  ·rfl
  ·split
   ·rfl
   ·split
    ·rfl
    ·exact RF _ _
structure E2(cs:List RC):Prop extends KJ cs where
 flat:iR cs
 even:JP cs
 shut:Na cs
theorem Yf(s:ByteArray)(cs:List RC)(h:(T s.size s.data.toList).bind (PP [])=some cs)(q:(Ir s).1=0):E2 cs:=by
 have j:Dr (A2 cs) (A2 cs)=none/\El cs=none/\DY cs cs=none:=by
  unfold Ir at q
  split at q
  ·simp at q
  ·rw[h]at q;simp only[]at q
   split at q
   ·simp at q
   ·rename_i z
    split at q
    ·simp at q
    ·rename_i k
     split at q
     ·simp at q
     ·rename_i y;exact⟨z,k,y⟩
 exact⟨X5 s cs h,TH cs j.2.2,gO j.1,eC j.2.1⟩
theorem TK(cs:List RC)(s:ByteArray)(h:E2 cs):E2 (CS cs s).2:=⟨TF cs s h.toKJ,by unfold iR;rw[RG];exact h.flat,(M3 s h.even h.shut).1,(M3 s h.even h.shut).2⟩
theorem Rx(cs:List RC)(s:ByteArray)(h:E2 cs):E2 (Cx cs s).2:=⟨Rv cs s h.toKJ,by unfold iR;rw[PF];exact h.flat,(LK s h.even h.shut).1,(LK s h.even h.shut).2⟩
end
end Go.Proofs.YtpbfiffgcgnidaaGreatDoor
