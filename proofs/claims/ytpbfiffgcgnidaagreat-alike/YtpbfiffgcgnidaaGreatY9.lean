import Derived.Test.YtpbfiffgcgnidaaGreatYal
import Derived.Test.YtpbfiffgcgnidaaGreatY6
import Derived.Test.YtpbfiffgcgnidaaGreatY8
namespace Go.Proofs.YtpbfiffgcgnidaaGreat
set_option maxRecDepth 100000
set_option maxHeartbeats 4000000
set_option linter.unusedSimpArgs false
open Go.Proofs.Tryz
section
open Go.RowKit
structure AtR where
 ok:Bool
 name:B8
 ts:List B8
 np:Nat
 ps:List Nat
 rest:B8
def atomCells(n:B8)(ts:List B8):List Value:=
 [.string (bs n),.int .i64 ts.length,.string (bs (ts.getD 0 [])),.string (bs (ts.getD 1 [])),.string (bs (ts.getD 2 []))]
def spotCells(mark np:Nat)(ps:List Nat):List Value:=
 [.int .i64 mark,.int .i64 np,.int .i64 (ps.getD 0 0:Nat),.int .i64 (ps.getD 1 0:Nat),.int .i64 (ps.getD 2 0:Nat)]
def argsR(s:ByteArray)(name:B8)(np:Nat):Nat->List B8->List Nat->B8->AtR
 |0,ts,ps,l=>⟨tookB l 41,name,ts,np,ps,tookL l 41⟩
 |f+1,ts,ps,l=>
  if termB l=false then⟨false,[],[],0,[],termL l⟩
  else if f=0 then⟨tookB (termL l) 41,name,ts++[termW l],np,ps++[posOf s (skipL l)],tookL (termL l) 41⟩
  else if tookB (termL l) 44=false then⟨tookB (tookL (termL l) 44) 41,name,ts++[termW l],np,ps++[posOf s (skipL l)],tookL (tookL (termL l) 44) 41⟩
  else argsR s name np f (ts++[termW l]) (ps++[posOf s (skipL l)]) (tookL (termL l) 44)
def atomR(s:ByteArray)(l:B8):AtR:=
 let m:=skipL l
 let n:=wlen smallDig 12 m
 if small (hd m)=false then⟨false,[],[],0,[],m⟩
 else if tookB (m.drop n) 40=false then⟨true,m.take n,[],posOf s m,[],tookL (m.drop n) 40⟩
 else argsR s (m.take n) (posOf s m) 3 [] [] (tookL (m.drop n) 40)
def AtR.val(r:AtR):Value:=.tuple #[.agg (atomCells r.name r.ts).toArray,.agg (spotCells 0 r.np r.ps).toArray,.bool r.ok]
theorem Rd.set5{w:World}{b:Nat}{s:ByteArray}{l:B8}(h:Rd w b s l)(A:Nat)(hA:b≠A)(x0 x1 x2 x3 x4:Value):
 Rd (((((w.setCell ⟨A,0,none⟩ x0).setCell ⟨A,1,none⟩ x1).setCell ⟨A,2,none⟩ x2).setCell ⟨A,3,none⟩ x3).setCell ⟨A,4,none⟩ x4) b s l:=by
 obtain⟨i,hi,hl,hr⟩:=h;exact⟨i,hi,hl,Blk.setOther5 hr A hA x0 x1 x2 x3 x4⟩
def zA:List Value:=[.string ⟨#[]⟩,.int .i64 0,.string ⟨#[]⟩,.string ⟨#[]⟩,.string ⟨#[]⟩]
def zS:List Value:=[.int .i64 0,.int .i64 0,.int .i64 0,.int .i64 0,.int .i64 0]
theorem new_one(w:World)(cs:List Value)(t:TypeId)(cs':List Value)(t':TypeId):Blk ((w.alloc (.cells cs.toArray t)).alloc (.cells cs'.toArray t')) w.heap.size cs t:=(Blk.new w cs t).alloc _
theorem new_two(w:World)(o:Obj)(cs':List Value)(t':TypeId):Blk ((w.alloc o).alloc (.cells cs'.toArray t')) (w.heap.size+1) cs' t':=by
 have h:=Blk.new (w.alloc o) cs' t';have e:(w.alloc o).heap.size=w.heap.size+1:=by simp
 rwa [e]at h
theorem atom_no(w:World)(b:Nat)(s:ByteArray)(l:B8)(hR:Rd w b s l)(hs:s.size<=281474976710656)(h1:small (hd (skipL l))=false):
 Calls prog 72 #[.pointer (some ⟨b,0,none⟩)] w fun e w'=>e=.returned (atomR s l).val/\Rd w' b s (atomR s l).rest/\Kept b w w':=by
 have hsm:s.size<=maxLen:=by unfold maxLen;omega
 have hlt:=hR.lt;obtain⟨m,HM⟩:∃m,Hid (m=skipL l):=⟨_,rfl⟩;rw[<-HM.out]at h1;go_enter func72,ntmps72;go_wp2_with (first|(go_at_call 71;refine(skipBlanks_l _ b s l (by exact(hR.alloc _).alloc _) hsm).mono ?_;rintro e w1 ⟨rfl,hR1,hK1⟩;rw[<-HM.out]at hR1;have hA:=(new_one w zA 54 zS 82).kept hK1 (by omega);have hS:=(new_two w _ zS 82).kept hK1 (by omega);obtain⟨a0,a1,a2,a3,a4⟩:=hA.c5;have fA:=hA.frozen;obtain⟨s0,s1,s2,s3,s4⟩:=hS.c5;have fS:=hS.frozen)|(go_at_call 91;refine(peek_l _ b s m (by exact hR1) hsm).mono ?_;rintro e w' ⟨rfl,n,rfl⟩)|(go_at_call 92;refine(isSmall_c _ _).mono ?_;rintro e w' ⟨rfl,rfl⟩));have er:atomR s l=⟨false,[],[],0,[],m⟩:=by simp[atomR,<-HM.out,h1]
 rw[er];refine bodyPost_ret (v:=AtR.val ⟨false,[],[],0,[],m⟩) (by simp[results,results72,go_sem,AtR.val,atomCells,spotCells,bs,a0,a1,a2,a3,a4,s0,s1,s2,s3,s4]) rfl ⟨rfl,?_,?_⟩
 ·repeat (refine Rd.setOther ?_ _ _ (by simp only[ne_eq];omega))
  exact hR1.drewN _
 ·repeat (refine Kept.setNew ?_ (by simp only[];omega) _)
  exact((((Kept.refl b w).allocs _).allocs _).trans hK1).draws _
end
section
attribute [local go_sem] drewN_alloc drewN_setCell
open Go.RowKit
theorem atom_bare(w:World)(b:Nat)(s:ByteArray)(l:B8)(hR:Rd w b s l)(hs:s.size<=281474976710656)(h1:small (hd (skipL l))=true)
 (h2:tookB ((skipL l).drop (wlen smallDig 12 (skipL l))) 40=false):
 Calls prog 72 #[.pointer (some ⟨b,0,none⟩)] w fun e w'=>e=.returned (atomR s l).val/\Rd w' b s (atomR s l).rest/\Kept b w w':=by
 have hsm:s.size<=maxLen:=by unfold maxLen;omega
 have hlt:=hR.lt;obtain⟨m,HM⟩:∃m,Hid (m=skipL l):=⟨_,rfl⟩;rw[<-HM.out]at h1 h2;obtain⟨q,HQ⟩:∃q,Hid (q=m.drop (wlen smallDig 12 m)):=⟨_,rfl⟩;rw[<-HQ.out]at h2;obtain⟨nm,HN⟩:∃nm,Hid (nm=bs (m.take (wlen smallDig 12 m))):=⟨_,rfl⟩;obtain⟨p,HP⟩:∃p:Nat,Hid (p=posOf s m):=⟨_,rfl⟩;go_enter func72,ntmps72;go_wp2_with (first|(go_at_call 71;refine(skipBlanks_l _ b s l (by exact(hR.alloc _).alloc _) hsm).mono ?_;rintro e w1 ⟨rfl,hR1,hK1⟩;rw[<-HM.out]at hR1;have hA1:=(new_one w zA 54 zS 82).kept hK1 (by omega);have hS1:=(new_two w _ zS 82).kept hK1 (by omega);have c1:=hR1.c1;rw[<-HP.out]at c1;have hz1:w.heap.size+1<w1.heap.size:=hS1.lt)|(go_at_call 91;refine(peek_l _ b s m (by exact hR1) hsm).mono ?_;rintro e w' ⟨rfl,n,rfl⟩)|(go_at_call 92;refine(isSmall_c _ _).mono ?_;rintro e w' ⟨rfl,rfl⟩)|(go_at_call 93;refine(word1_l _ b s m (by exact(hR1.alloc _).drewN _) hs).mono ?_;rintro e w2 ⟨he,hR2,hK2⟩;rw[<-HN.out]at he;subst he;rw[<-HQ.out]at hR2;clear c1;have hsp2:=((Blk.new w1 [.int .i64 0,.int .i64 p,.int .i64 0,.int .i64 0,.int .i64 0] 82).drewN n).kept hK2 (by omega);have hA2:=((hA1.alloc _).drewN n).kept hK2 (by omega);have hS2:=((hS1.alloc _).drewN n).kept hK2 (by omega);have hz2:w1.heap.size<w2.heap.size:=hsp2.lt)|(go_at_call 73;refine(take_l _ b s q 40 (by exact hR2.alloc _) hsm (by omega)).mono ?_;rintro e w3 ⟨rfl,hR3,hK3⟩;have hat3:=(Blk.new w2 [.string nm,.int .i64 0,.string ⟨#[]⟩,.string ⟨#[]⟩,.string ⟨#[]⟩] 54).kept hK3 (by omega);have hsp3:=(hsp2.alloc _).kept hK3 (by omega);have hA3:=(hA2.alloc _).kept hK3 (by omega);have hS3:=(hS2.alloc _).kept hK3 (by omega);obtain⟨a0,a1,a2,a3,a4⟩:=hA3.c5;have fA:=hA3.frozen;obtain⟨s0,s1,s2,s3,s4⟩:=hS3.c5;have fS:=hS3.frozen;obtain⟨t0,t1,t2,t3,t4⟩:=hat3.c5;obtain⟨p0,p1,p2,p3,p4⟩:=hsp3.c5;clear hA1 hS1 hsp2 hA2 hS2 hat3 hsp3 hA3 hS3;have HK3:Hid (Kept b w w3):=((((((Kept.refl b w).allocs _).allocs _).trans hK1).allocs _).draws _|>.trans hK2|>.allocs _).trans hK3;clear hK1 hK2 hK3));go_region;go_wp2;have er:atomR s l=⟨true,m.take (wlen smallDig 12 m),[],posOf s m,[],tookL q 40⟩:=by simp[atomR,<-HM.out,h1,<-HQ.out,h2]
 rw[er];refine bodyPost_ret (v:=AtR.val ⟨true,m.take (wlen smallDig 12 m),[],posOf s m,[],tookL q 40⟩) (by simp[results,results72,go_sem,AtR.val,atomCells,spotCells,bs,<-HP.out,HN.out,a0,a1,a2,a3,a4,s0,s1,s2,s3,s4]) rfl ⟨rfl,?_,?_⟩
 ·exact Rd.drew ((hR3.set5 _ (by omega) _ _ _ _ _).set5 _ (by omega) _ _ _ _ _)
 ·exact((HK3.out.set5 _ (by omega) _ _ _ _ _).set5 _ (by omega) _ _ _ _ _).drewn
end
end Go.Proofs.YtpbfiffgcgnidaaGreat
