import Derived.Test.YtpbfiffgcgnidaaGreatYal
import Derived.Test.YtpbfiffgcgnidaaGreatY3
namespace Go.Proofs.YtpbfiffgcgnidaaGreat
set_option maxRecDepth 100000
set_option maxHeartbeats 4000000
set_option linter.unusedSimpArgs false
section
def walks(g:Nat->Nat->Bool):Nat->Nat->Nat->Prop
 |0,i,k=>g i k=true
 |n+1,i,k=>∃m,m<4/\walks g n i m/\g m k=true
def Leads(g:Nat->Nat->Bool)(i k:Nat):Prop:=∃n,walks g n i k
def walksV(g:Nat->Nat->Bool)(M:Nat):Nat->Nat->Nat->Prop
 |0,i,k=>g i k=true
 |n+1,i,k=>∃m,m<M/\walksV g M n i m/\g m k=true
def Via(g:Nat->Nat->Bool)(M i k:Nat):Prop:=∃n,walksV g M n i k
section
variable {g:Nat->Nat->Bool}
theorem Via.add{M i k m:Nat}(h:Via g M i m)(hm:m<M)(e:g m k=true):Via g M i k:=by obtain⟨n,h⟩:=h;exact⟨n+1,m,hm,h,e⟩
theorem Via.split{M i k:Nat}(h:Via g (M+1) i k):Via g M i k\/Via g M i M/\Via g M M k:=by
 obtain⟨n,h⟩:=h
 induction n generalizing k with
 |zero=>exact .inl ⟨0,h⟩
 |succ n ih=>
  obtain⟨m,hm,h,e⟩:=h;by_cases hM:m=M
  ·subst hM;rcases ih h with h|⟨h,_⟩
   ·exact .inr ⟨h,0,e⟩
   ·exact .inr ⟨h,0,e⟩
  ·have hm:m<M:=by omega
   rcases ih h with h|⟨h,h'⟩
   ·exact .inl (h.add hm e)
   ·exact .inr ⟨h,h'.add hm e⟩
theorem via_leads(i k:Nat):Via g 4 i k↔Leads g i k:=by
 have key:∀n k,walksV g 4 n i k↔walks g n i k:=by
  intro n
  induction n with
  |zero=>intro k;exact Iff.rfl
  |succ n ih=>
   intro k;constructor
   ·rintro⟨m,hm,h,e⟩;exact⟨m,hm,(ih m).1 h,e⟩
   ·rintro⟨m,hm,h,e⟩;exact⟨m,hm,(ih m).2 h,e⟩
 constructor
 ·rintro⟨n,h⟩;exact⟨n,(key n k).1 h⟩
 ·rintro⟨n,h⟩;exact⟨n,(key n k).2 h⟩
theorem Leads.trans{i m k:Nat}(hm:m<4)(h:Leads g i m)(h':Leads g m k):Leads g i k:=by
 obtain⟨n,h'⟩:=h'
 induction n generalizing k with
 |zero=>obtain⟨j,h⟩:=h;exact⟨j+1,m,hm,h,h'⟩
 |succ n ih=>obtain⟨u,hu,h1,e⟩:=h';obtain⟨j,h2⟩:=ih h1;exact⟨j+1,u,hu,h2,e⟩
end
def wstep(o:Nat->Nat->Bool)(m i k:Nat):Nat->Nat->Bool:=fun a b=>if a=i/\b=k then(o i k||o i m&&o m k) else o a b
structure Wars(g o:Nat->Nat->Bool)(m i k:Nat):Prop where
 sound:∀a b,a<4->b<4->o a b=true->Leads g a b
 low:∀a b,a<4->b<4->Via g m a b->o a b=true
 rows:∀a b,a<i->b<4->Via g (m+1) a b->o a b=true
 row:∀b,b<k->Via g (m+1) i b->o i b=true
section
variable {g o:Nat->Nat->Bool} {m i k:Nat}
theorem Wars.start(g:Nat->Nat->Bool):Wars g g 0 0 0:=by
 refine⟨fun a b _ _ h=>⟨0,h⟩,?_,fun a b h=>by omega,fun b h=>by omega⟩;rintro a b _ _ ⟨n,h⟩
 cases n with
 |zero=>exact h
 |succ n=>obtain⟨u,hu,_⟩:=h;omega
theorem Wars.step(h:Wars g o m i k)(hm:m<4)(hi:i<4)(hk:k<4):Wars g (wstep o m i k) m i (k+1):=by
 have mono:∀a b,o a b=true->wstep o m i k a b=true:=by
  intro a b e;unfold wstep
  split
  ·rename_i hh;obtain⟨rfl,rfl⟩:=hh;simp[e]
  ·exact e
 refine⟨?_,fun a b ha hb e=>mono a b (h.low a b ha hb e),fun a b ha hb e=>mono a b (h.rows a b ha hb e),?_⟩
 ·intro a b ha hb e;unfold wstep at e
  split at e
  ·rename_i hh;obtain⟨rfl,rfl⟩:=hh;rw[Bool.or_eq_true,Bool.and_eq_true]at e;rcases e with e|⟨e1,e2⟩
   ·exact h.sound _ _ ha hb e
   ·exact(h.sound _ _ ha hm e1).trans hm (h.sound _ _ hm hb e2)
  ·exact h.sound _ _ ha hb e
 ·intro b hb e;by_cases hbk:b=k
  ·subst hbk;unfold wstep;rw[if_pos ⟨rfl,rfl⟩,Bool.or_eq_true,Bool.and_eq_true];rcases e.split with e|⟨e1,e2⟩
   ·exact .inl (h.low _ _ hi hk e)
   ·exact .inr ⟨h.low _ _ hi hm e1,h.low _ _ hm hk e2⟩
  ·exact mono _ _ (h.row b (by omega) e)
theorem Wars.nextI(h:Wars g o m i 4):Wars g o m (i+1) 0:=by
 refine⟨h.sound,h.low,?_,fun b hb=>by omega⟩;intro a b ha hb e;by_cases hai:a=i
 ·subst hai;exact h.row b hb e
 ·exact h.rows a b (by omega) hb e
theorem Wars.nextM(h:Wars g o m 4 0):Wars g o (m+1) 0 0:=
 ⟨h.sound,fun a b ha hb e=>h.rows a b ha hb e,fun a b ha=>by omega,fun b hb=>by omega⟩
theorem Wars.done(h:Wars g o 4 0 0)(a b:Nat)(ha:a<4)(hb:b<4):o a b=true↔Leads g a b:=
 ⟨h.sound a b ha hb,fun e=>h.low a b ha hb ((via_leads a b).2 e)⟩
end
theorem sort_is{A:Type}(f:A->B8){out H:List A}(ho:out.Nodup)(hH:H.Nodup)(hm:∀b,b∈out↔b∈H)(hs:(H.map f).Pairwise (fun x y=>x<=y)):(out.map f).mergeSort (fun x y=>decide (x<=y))=H.map f:=by
 have hp:out.Perm H:=(List.perm_ext_iff_of_nodup ho hH).2 hm;have h1:((out.map f).mergeSort fun x y=>decide (x<=y)).Perm (H.map f):=(List.mergeSort_perm _ _).trans (hp.map f)
 have h2:=List.pairwise_mergeSort (le:=fun x y:B8=>decide (x<=y)) (by
  intro a b c hab hbc
  exact decide_eq_true (List.le_trans (of_decide_eq_true hab) (of_decide_eq_true hbc))) (by
  intro a b
  rcases List.le_total a b with h|h<;>simp[h]) (out.map f)
 refine List.Perm.eq_of_pairwise (le:=fun x y:B8=>x<=y) ?_ (h2.imp (fun h=>of_decide_eq_true h)) hs h1;intro a b _ _ hab hba;exact List.le_antisymm hab hba
theorem ask_list{A:Type}(f:A->B8){out:List A}(ho:out.Nodup)(n:Nat)(P:Nat->Bool)(F:Nat->A)(hm:∀b,b∈out↔ ∃j,j<n/\P j=true/\b=F j)(hs:(List.range n).Pairwise (fun i j=>f (F i)<f (F j))):(out.map f).mergeSort (fun x y=>decide (x<=y))=((List.range n).filter P).map (fun j=>f (F j)):=by
 have hs':((List.range n).filter P).Pairwise (fun i j=>f (F i)<f (F j)):=hs.filter _
 have:=sort_is f (H:=((List.range n).filter P).map F) ho (by
  unfold List.Nodup;rw[List.pairwise_map];refine hs'.imp ?_;intro i j h e;rw[e]at h
  exact List.lt_irrefl _ h) (by
  intro b;rw[hm,List.mem_map];constructor
  ·rintro⟨j,hj,hp,rfl⟩;exact⟨j,List.mem_filter.2 ⟨List.mem_range.2 hj,hp⟩,rfl⟩
  ·rintro⟨j,hj,rfl⟩;obtain⟨h1,h2⟩:=List.mem_filter.1 hj
   exact⟨j,List.mem_range.1 h1,h2,rfl⟩) (by
  rw[List.pairwise_map,List.pairwise_map]
  exact hs'.imp (fun h=>List.le_of_lt h))
 rw[this,List.map_map];rfl
section
variable {g o o':Nat->Nat->Bool} {m i k:Nat}
theorem Wars.congr(h:Wars g o m i k)(hi:i<=4)(hk:k<=4)(hik:i<4\/k=0)(e:∀a b,a<4->b<4->o' a b=o a b):Wars g o' m i k:=by
 refine⟨?_,?_,?_,?_⟩
 ·intro a b ha hb h1;rw[e a b ha hb]at h1;exact h.sound a b ha hb h1
 ·intro a b ha hb h1;rw[e a b ha hb];exact h.low a b ha hb h1
 ·intro a b ha hb h1;rw[e a b (by omega) hb];exact h.rows a b ha hb h1
 ·intro b hb h1;rw[e i b (by omega) (by omega)];exact h.row b hb h1
end
def gOf(q:List Bool)(i k:Nat):Bool:=q.getD (4*i+k) false
theorem gOf_set(o:List Bool)(ho:o.length=16)(i k:Nat)(hi:i<4)(hk:k<4)(x:Bool)(a b:Nat)(ha:a<4)(hb:b<4):gOf (o.set (4*i+k) x) a b=if a=i/\b=k then x else gOf o a b:=by
 unfold gOf;rw[List.getD_eq_getElem?_getD,List.getElem?_set];by_cases h:a=i/\b=k
 ·obtain⟨rfl,rfl⟩:=h;simp[show 4*a+b<o.length by omega]
 ·rw[if_neg h,if_neg (by omega),List.getD_eq_getElem?_getD]
end
end Go.Proofs.YtpbfiffgcgnidaaGreat
