import Derived.Test.YtpbfiffgcgnidaaGreatDoorYal
import Derived.Test.YtpbfiffgcgnidaaGreatDoorY13
import Derived.Test.YtpbfiffgcgnidaaGreatDoorY23
namespace Go.Proofs.YtpbfiffgcgnidaaGreatDoor
set_option maxRecDepth 100000
set_option maxHeartbeats 4000000
set_option linter.unusedSimpArgs false
section
def H5(ps:List Pc):Option RA:=match BF ps with
 |some (a,[])=>if a.neg=true then none else some a
 |_=>none
def B0(s:ByteArray):Option RA:=(T s.size s.data.toList).bind H5
theorem Mh{ps:List Pc}(h:BF ps=none):H5 ps=none:=by unfold H5;rw[h]
theorem NX{ps r:List Pc}{a:RA}(h:BF ps=some (a,r))(hn:a.neg=true):H5 ps=none:=by
 unfold H5;rw[h]
 cases r with
 |nil=>simp[hn]
 |cons p r=>rfl
theorem MW{ps:List Pc}{p:Pc}{r:List Pc}{a:RA}(h:BF ps=some (a,p::r)):H5 ps=none:=by unfold H5;rw[h]
theorem NW{ps:List Pc}{a:RA}(h:BF ps=some (a,[]))(hn:a.neg=false):H5 ps=some a:=by unfold H5;rw[h];simp[hn]
theorem OG(neg:Bool)(bang:Nat)(p:Pc)(r:List Pc)(h:(p.mark==110)=false):C7 neg bang (p::r)=none:=by cases r<;>simp[C7,h]
theorem Qx(neg:Bool)(bang:Nat)(ps:List Pc)(a:RA)(r:List Pc)(h:C7 neg bang ps=some (a,r)):a.neg=neg:=by
 cases ps with
 |nil=>simp[C7]at h
 |cons p q=>
  cases h110:(p.mark==110)
  ·rw[OG _ _ _ _ h110]at h;exact absurd h (by simp)
  ·cases q with
   |nil=>rw[C7,Ai h110]at h;simp only[Al,CW]at h;rw[<-h.1]
   |cons j r0=>
    rw[C7,Ai h110]at h;cases h40:(j.mark==40)
    ·simp only[h40,An,AM,Al,CW]at h;rw[<-h.1]
    ·simp only[h40,Bk]at h
     cases ht:BU [] r0 with
     |none=>rw[ht]at h;exact absurd h (by simp)
     |some x=>
      obtain⟨ts,u⟩:=x;rw[ht,Option.bind_some]at h;unfold Dj at h
      cases u with
      |nil=>exact absurd h (by simp)
      |cons c u=>
       simp only[]at h
       split at h
       ·simp only[Al,CW]at h;rw[<-h.1]
       ·exact absurd h (by simp)
def qK(a:RA):List Pc->Option RA
 |[]=>some a
 |_::_=>none
theorem SX(ps:List Pc):H5 ps=(C7 false 0 ps).bind fun x=>qK x.1 x.2:=by
 cases ps with
 |nil=>rfl
 |cons p r=>
  cases hb:(p.mark==33)
  ·have e:BF (p::r)=C7 false 0 (p::r):=by rw[BF,Af (by rw[hb];simp)]
   cases hc:C7 false 0 (p::r) with
   |none=>rw[Mh (e.trans hc)];rfl
   |some x=>
    obtain⟨a,q⟩:=x
    cases q with
    |nil=>rw[NW (e.trans hc) (Qx _ _ _ _ _ hc)];rfl
    |cons p' q=>rw[MW (e.trans hc)];rfl
  ·have j:(p.mark==110)=false:=by rw[Co]at hb;rw[hb];rfl
   rw[OG _ _ _ _ j];have e:BF (p::r)=C7 true p.pl r:=by rw[BF,Ai hb]
   cases hc:C7 true p.pl r with
   |none=>rw[Mh (e.trans hc)];rfl
   |some x=>obtain⟨a,q⟩:=x;rw[NX (e.trans hc) (Qx _ _ _ _ _ hc)];rfl
theorem FO(s:ByteArray):match B0 s with
 |none=>U4 s s.data.toList=false
 |some a=>U4 s s.data.toList=true/\(∃r,Bf s s.data.toList=⟨true,a.name,a.ts.map RT.s,a.pl,a.ts.map RT.pl,r⟩)/\a.af=0/\a.neg=false/\a.fit:=by
 have j:B0 s=(Fh s.size false 0 s.data.toList).bind fun x=>(T s.size x.2).bind (qK x.1):=by unfold B0;rw[show H5=fun q=>(C7 false 0 q).bind fun x=>qK x.1 x.2 from funext SX];exact OQ s.size s.data.toList false 0 qK (fun a p r _=>rfl)
 rw[j];have h:=NF s false 0 s.data.toList
 cases hq:Fh s.size false 0 s.data.toList with
 |none=>rw[hq]at h;simp only[]at h;simp[U4,h]
 |some x=>
  obtain⟨a,r⟩:=x;rw[hq]at h;obtain⟨h1,h2,h3⟩:=h;have z:=MF s.size false 0 s.data.toList a r hq;rw[Option.bind_some];simp only[];rcases Ee r with hs|⟨c,t,hs,hb⟩
  ·have e:(T s.size r).bind (qK a)=some a:=by rw[<-OZ,hs];rfl
   rw[e];exact⟨by simp[U4,h1,hs],⟨r,h1⟩,h2,h3,z⟩
  ·have e:(T s.size r).bind (qK a)=none:=by
    cases ht:T s.size r with
    |none=>rfl
    |some qs=>obtain⟨p,q,rfl⟩:=We s.size r c t hs hb qs ht;rfl
   rw[e];simp[U4,h1,hs]
end
end Go.Proofs.YtpbfiffgcgnidaaGreatDoor
