import Derived.Test.YtpbfiffgcgnidaaGreatDoorYal
import Derived.Test.YtpbfiffgcgnidaaGreatDoorY16
namespace Go.Proofs.YtpbfiffgcgnidaaGreatDoor
set_option maxRecDepth 100000
set_option maxHeartbeats 4000000
set_option linter.unusedSimpArgs false
open Go.Proofs.Tryz
section
attribute [local go_sem] AE As
open Go.RowKit Go.WideMaps Go.Maps
def Ga(cs:List RC):B8:=cs.flatMap fun c=>c.shown++[10]
theorem UU(cs:List RC)(h:∀c∈cs,c.Small):(Ga cs).length<=321*cs.length:=by
 induction cs with
 |nil=>simp[Ga]
 |cons c cs q=>have h1:=c.au (h c (by simp));have h2:=q (fun d hd=>h d (by simp[hd]));unfold Ga at h2⊢;simp only[Cg,Am,List.length_cons,List.length_nil];omega
theorem SN(cs:List RC)(k:Nat)(q:k<cs.length):bs (Ga (cs.take k))++bs (cs[k]).shown++⟨#[10]⟩=bs (Ga (cs.take (k+1))):=by rw[Ad q];unfold Ga;rw[BG,Ca,Ih];have:=Ih (List.flatMap (fun c=>c.shown++[10]) (List.take k cs)++(cs[k]).shown) [10];rw[Bm]at this;exact this
theorem Cy.below{w w':World}{base bb:Nat}{cs:List RC}(h:Cy w base bb cs)(hb:Below w.heap.size w w'):Cy w' base bb cs:=by obtain⟨v,h1,h2⟩:=h;exact⟨v,h1.below hb,h2.below hb⟩
theorem Zr(w:World)(base bb:Nat)(cs:List RC)(o:Cy w base bb cs)(hs:∀c∈cs,c.Small)(hn:cs.length<=40):
 Calls prog 15 #[.pointer (some ⟨bb,0,none⟩)] w fun e w'=>e=.returned (.string (bs (Ga cs)))/\Below w.heap.size w w':=by
 obtain⟨v,i,x⟩:=o;obtain⟨ao,cap,rfl⟩:=x.form;go_enter func15,ntmps15;go_wp2
 go_loopw [3,4] (fun sv p wr=>∃(k:Nat),k<=cs.length/\p=.int .i64 k/\sv=.string (bs (Ga (cs.take k)))/\Below w.heap.size w wr) (fun _ p _=>cs.length-(intOf p).toNat)
 case atStart=>exact⟨0,by omega,rfl,rfl,Ag _ _⟩
 case round=>
  obtain⟨k,hk,rfl,rfl,j⟩:=hrel;have r:=j.size;have z:=i.below j;have v0:wr.cell? ⟨bb,0,none⟩=some (.slice ao cs.length cap):=z.cell 0;have q2:=z.lt;have f:=UU (cs.take k) (fun c hc=>hs c (Dy hc));have u:(cs.take k).length=k:=by simp;omega
  rw[u]at f;by_cases q:k<cs.length
  ·obtain⟨g,tv,bo,bcap,rfl,hg,b0,b1,b2,b3,b4,b5,s,hR⟩:=DZ (x.below j) rfl k q;have b:=hs cs[k] (Aj q);have m:=Ao (SN cs k q);generalize cs[k]=c at*;obtain⟨l,d,rfl⟩:=Au s;have q3:=c.au b;obtain⟨X,n⟩:∃X,Hid (X=Ga (cs.take k)):=⟨_,rfl⟩;rw[<-n.out]at m f⊢;have q0:¬9223372036854775807<(bs X).size+(bs c.shown).size:=by rw[Fe,Fe];omega
   have q1:¬9223372036854775807<(bs X).size+(bs c.shown).size+1:=by rw[Fe,Fe];omega
   clear u n;go_wp2_with (go_at_call 36;refine(Hy _ base c l d bo bcap (by exact s) (by exact hR) b).mono ?_;rintro e w1 ⟨rfl,t⟩);exact⟨⟨k+1,q,by go_num,Bl Value.string m.out,j.trans (t.mono r)⟩,by simp[intOf];omega⟩
  ·have y:k=cs.length:=by omega
   have a:=Ao (show Ga (cs.take k)=Ga cs by rw[y,AL]);clear y;go_wp2_with fail
   go_ret
   rw[a.out];exact⟨rfl,j⟩
def C0(cs:List RC)(x:B8):Nat:=cs.countP fun c=>c.body.isEmpty&&decide (c.shown=x++[46])
theorem TO(cs:List RC)(x:B8)(k:Nat)(q:k<cs.length):C0 (cs.take (k+1)) x=C0 (cs.take k) x+if((cs[k]).body.isEmpty&&decide ((cs[k]).shown=x++[46]))=true then 1 else 0:=by rw[Ad q];unfold C0;rw[List.countP_append,List.countP_singleton]
theorem Yh(cs:List RC)(x:B8):C0 cs x<=cs.length:=List.countP_le_length
theorem Jw(w:World)(base bb:Nat)(cs:List RC)(C:Cy w base bb cs)(hs:∀c∈cs,c.Small)(hn:cs.length<=40)(x:B8)(hx:x.length<=1000):
 Calls prog 42 #[.pointer (some ⟨bb,0,none⟩),.string (bs x)] w fun e w'=>e=.returned (.int .i64 (C0 cs x:Nat))/\Below w.heap.size w w':=by
 obtain⟨v,M,P⟩:=C;obtain⟨ao,cap,rfl⟩:=P.form;have q1:¬9223372036854775807<(bs x).size+1:=by rw[Fe];omega
 have Q:=Ao (show bs x++⟨#[46]⟩=bs (x++[46]) from Ih x [46]);go_enter func42,ntmps42;go_wp2
 go_loopw [5,6] (fun nv G wr=>∃(k:Nat),k<=cs.length/\G=.int .i64 k/\nv=.int .i64 (C0 (cs.take k) x:Nat)/\Below w.heap.size w wr) (fun _ G _=>cs.length-(intOf G).toNat)
 case atStart=>exact⟨0,by omega,rfl,rfl,Ag _ _⟩
 case round=>
  obtain⟨k,hk,rfl,rfl,f⟩:=hrel;have i:=f.size;have d:=M.below f;have R:wr.cell? ⟨bb,0,none⟩=some (.slice ao cs.length cap):=d.cell 0;have q0:=d.lt;by_cases u:k<cs.length
  ·obtain⟨g,tv,bo,bcap,rfl,U,b0,b1,b2,b3,b4,b5,K,hR⟩:=DZ (P.below f) rfl k u;have o:=hs cs[k] (Aj u);have j:=Ao (TO cs x k u);have J:=Yh (cs.take k) x;have Y:(cs.take k).length=k:=by simp;omega
   rw[Y]at J;generalize cs[k]=c at*;obtain⟨B,r,rfl⟩:=Au K;obtain⟨n,l⟩:∃n,Hid (n=C0 (cs.take k) x):=⟨_,rfl⟩;rw[<-l.out]at j J⊢;clear Y l;have m:=Ao b5;by_cases y:c.body.length=0
   ·have z:c.body.isEmpty=true:=by cases hc:c.body with
     |nil=>rfl
     |cons a b=>rw[hc]at y;simp at y
    have t:(c.body.length:Int)=0:=by omega
    have V:((c.body.length:Int)==0)=true:=by rw[t];rfl
    have hq:=D4 c.shown (x++[46]);cases hd:decide (c.shown=x++[46])
    ·rw[hd]at hq;have s:=Ao (show n=C0 (cs.take (k+1)) x by rw[j.out,z,hd];rfl);clear j y z hd t;go_wp2_with (go_at_call 36;refine(Hy _ base c B r bo bcap (by exact K) (by exact hR) o).mono ?_;rintro e w1 ⟨rfl,q⟩;have R:w1.cell? ⟨bb,0,none⟩=some (.slice (some ⟨g,0,none⟩) cs.length cap):=(d.below q).cell 0;have b5:=m.out;rw[<-q.cell (p:=⟨g,k*6+5,none⟩) U]at b5;rw[<-Q.out]at hq);exact⟨⟨k+1,u,by go_num,by rw[s.out],f.trans (q.mono i)⟩,by simp[intOf];omega⟩
    ·rw[hd]at hq;have s:=Ao (show n+1=C0 (cs.take (k+1)) x by rw[j.out,z,hd];rfl);clear j y z hd t;go_wp2_with (go_at_call 36;refine(Hy _ base c B r bo bcap (by exact K) (by exact hR) o).mono ?_;rintro e w1 ⟨rfl,q⟩;have R:w1.cell? ⟨bb,0,none⟩=some (.slice (some ⟨g,0,none⟩) cs.length cap):=(d.below q).cell 0;have b5:=m.out;rw[<-q.cell (p:=⟨g,k*6+5,none⟩) U]at b5;rw[<-Q.out]at hq);exact⟨⟨k+1,u,by go_num,by rw[<-s.out];go_num,f.trans (q.mono i)⟩,by simp[intOf];omega⟩
   ·have z:c.body.isEmpty=false:=by cases hc:c.body with
     |nil=>rw[hc]at y;simp at y
     |cons a b=>rfl
    have t:¬(c.body.length:Int)=0:=by omega
    have V:((c.body.length:Int)==0)=false:=by simpa using t
    have s:=Ao (show n=C0 (cs.take (k+1)) x by rw[j.out,z];rfl);clear j y z;go_wp2_with (go_at_call 36;refine(Hy _ base c B r bo bcap (by exact K) (by exact hR) o).mono ?_;rintro e w1 ⟨rfl,q⟩;have R:w1.cell? ⟨bb,0,none⟩=some (.slice (some ⟨g,0,none⟩) cs.length cap):=(d.below q).cell 0;have b5:=m.out;rw[<-q.cell (p:=⟨g,k*6+5,none⟩) U]at b5);exact⟨⟨k+1,u,by go_num,by rw[s.out],f.trans (q.mono i)⟩,by simp[intOf];omega⟩
  ·have Z:k=cs.length:=by omega
   have s:=Ao (show C0 (cs.take k) x=C0 cs x by rw[Z,AL]);clear Z;go_wp2_with fail
   go_ret
   rw[s.out];exact⟨rfl,f⟩
end
end Go.Proofs.YtpbfiffgcgnidaaGreatDoor
