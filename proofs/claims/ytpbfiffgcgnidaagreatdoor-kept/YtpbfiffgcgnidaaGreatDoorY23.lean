import Derived.Test.YtpbfiffgcgnidaaGreatDoorYal
import Derived.Test.YtpbfiffgcgnidaaGreatDoorY9
namespace Go.Proofs.YtpbfiffgcgnidaaGreatDoor
set_option maxRecDepth 100000
set_option maxHeartbeats 4000000
set_option linter.unusedSimpArgs false
section
def LL(c:Int):Option St:=if Cf c then some (.named 0 none) else if c==40 then some (.opened 0 none 0) else none
def If(t:Nat)(c:Int):Option St:=
 if Cf c then some (.bt 0 none t) else if c==41 then some (.atom 0 none) else if c==44&&decide (t<2) then some (.opened 0 none (t+1)) else none
def Hr(st:St)(c:Int):Option St:=
 match st.tag with
 |0=>if Cf c then some (.top 0) else if small c then some (.name 0 none 1) else none
 |1=>if Ax c&&decide (st.w<12) then some (.name 0 none (st.w+1)) else LL c
 |2=>LL c
 |3=>if Cf c then some (.atom 0 none) else none
 |4=>if Cf c then some (.opened 0 none st.t) else if small c then some (.term 0 none st.t false 1) else if CT c then some (.term 0 none st.t true 1) else none
 |5=>if M1 st.v c&&decide (st.w<12) then some (.term 0 none st.t st.v (st.w+1)) else If st.t c
 |6=>If st.t c
 |_=>none
def St.eh(st:St):Bool:=st.tag==1||st.tag==2||st.tag==3
def DQ:St->B8->Iq
 |st,[]=>Iq.fin st.eh
 |st,c::l=>match Hr st (c.toNat:Int) with
  |none=>Iq.dead (c::l)
  |some q=>DQ q l
theorem WW(st:St)(l:B8)(h:Hr st (hd l)=none)(j:st.eh=false):DQ st l=F l:=by
 cases l with
 |nil=>simp[DQ,F,j]
 |cons c l=>have q:Hr st (c.toNat:Int)=none:=h;rw[DQ,q];rfl
theorem L0(st:St)(h:∀c,Cf c=true->Hr st c=some st)(l:B8):DQ st l=DQ st (AD l):=by
 induction l with
 |nil=>rfl
 |cons c l q=>
  unfold AD
  split
  ·rename_i hb;rw[DQ,h _ hb];exact q
  ·rfl
theorem L1(st q:St)(l:B8)(h:Hr st (hd l)=Hr q (hd l))(z:st.eh=q.eh):DQ st l=DQ q l:=by
 cases l with
 |nil=>simp[DQ,z]
 |cons c l=>have j:Hr st (c.toNat:Int)=Hr q (c.toNat:Int):=h;rw[DQ,DQ,j]
theorem iX(n w:Nat)(hn:n+w=12)(l:B8):DQ (.name 0 none w) l=DQ (.named 0 none) (l.drop (Bt Ax n l)):=by
 induction n generalizing w l with
 |zero=>
  have:Bt Ax 0 l=0:=by unfold Bt;rfl
  rw[this,B4];apply L1
  ·simp only[Hr,show ¬w<12 by omega,IQ,FK];rfl
  ·rfl
 |succ n q=>
  cases l with
  |nil=>rfl
  |cons c l=>
   unfold Bt;cases hc:Ax (c.toNat:Int)
   ·simp only[An,AM,B4];apply L1
    ·simp only[Hr,hd,hc,Dn];rfl
    ·rfl
   ·simp only[Bk,Cm];rw[DQ];simp only[Hr,hc,BD,show w<12 by omega,JT,Bk];exact q (w+1) (by omega) l
theorem WV(t:Nat)(v:Bool)(n w:Nat)(hn:n+w=12)(l:B8):DQ (.term 0 none t v w) l=DQ (.bt 0 none t) (l.drop (Bt (M1 v) n l)):=by
 induction n generalizing w l with
 |zero=>
  have:Bt (M1 v) 0 l=0:=by unfold Bt;rfl
  rw[this,B4];apply L1
  ·simp only[Hr,show ¬w<12 by omega,IQ,FK];rfl
  ·rfl
 |succ n q=>
  cases l with
  |nil=>rfl
  |cons c l=>
   unfold Bt;cases hc:M1 v (c.toNat:Int)
   ·simp only[An,AM,B4];apply L1
    ·simp only[Hr,hd,hc,Dn];rfl
    ·rfl
   ·simp only[Bk,Cm];rw[DQ];simp only[Hr,hc,BD,show w<12 by omega,JT,Bk];exact q (w+1) (by omega) l
theorem QI(t:Nat)(l:B8):DQ (.opened 0 none t) l=if Ep l=false then F (AD l) else DQ (.bt 0 none t) (Bw l):=by
 rw[L0 _ (by intro c hc;simp[Hr,hc])];have hb:=Ds l;unfold Ep Bw Hc;generalize AD l=m at*;cases h1:small (hd m)
 ·cases h2:CT (hd m)
  ·simp only[Bool.or_self,Bk];exact WW _ _ (by simp[Hr,hb,h1,h2]) rfl
  ·simp only[CJ,AV,AM,Bk,An]
   cases m with
   |nil=>simp[hd,CT]at h2
   |cons c r=>
    have q:small (c.toNat:Int)=false:=h1;have z:CT (c.toNat:Int)=true:=h2;have j:Cf (c.toNat:Int)=false:=hb;have e:Bt AI 12 (c::r)=Bt AI 11 r+1:=by rw[Bt,Ai (Ia _ z).1]
    rw[DQ];simp only[Hr,j,q,z,An,AM,Bk];rw[WV t true 11 1 rfl,e,Cm];rfl
 ·simp only[KN,AV,AM,Bk]
  cases m with
  |nil=>simp[hd,small]at h1
  |cons c r=>
   have q:small (c.toNat:Int)=true:=h1;have j:Cf (c.toNat:Int)=false:=hb;have e:Bt Ax 12 (c::r)=Bt Ax 11 r+1:=by rw[Bt,Ai (Ed _ q).1]
   rw[DQ];simp only[Hr,j,q,An,AM,Bk];rw[WV t false 11 1 rfl,e,Cm];rfl
theorem QH(t:Nat)(l:B8):DQ (.bt 0 none t) l=if AX l 41=true then DQ (.atom 0 none) (AT l 41) else if(AX l 44&&decide (t<2))=true then DQ (.opened 0 none (t+1)) (AT l 44) else F (AD l):=by
 rw[L0 _ (by intro c hc;simp[Hr,If,hc])];have hb:=Ds l;cases h41:AX l 41
 ·rw[Af (by simp)];have q:=GI l 41 h41;cases h44:AX l 44
  ·rw[Dn,Af (by simp)];have j:=GI l 44 h44;exact WW _ _ (by simp only[Hr,If,hb,q,j,Dn,An,AM]) rfl
  ·obtain⟨c,r,hs,hc,ht⟩:=ET l 44 (by decide) h44;by_cases h2:t<2
   ·rw[BD,Ai (by simpa using h2),hs,ht,DQ];have:Hr (.bt 0 none t) (c.toNat:Int)=some (.opened 0 none (t+1)):=by rw[hc];simp[Hr,If,Cf,h2]
    rw[this]
   ·rw[BD,Af (by simpa using h2)];exact WW _ _ (by rw[hs];show Hr _ (c.toNat:Int)=none;rw[hc];simp[Hr,If,Cf,h2]) rfl
 ·rw[Ai rfl];obtain⟨c,r,hs,hc,ht⟩:=ET l 41 (by decide) h41;rw[hs,ht,DQ];have:Hr (.bt 0 none t) (c.toNat:Int)=some (.atom 0 none):=by rw[hc];rfl
  rw[this]
theorem jA(s:ByteArray)(nm:B8)(np:Nat)(f:Nat)(ts:List B8)(ps:List Nat)(t:Nat)(ht:t+(f+1)=3)(l:B8):
 DQ (.opened 0 none t) l=if(CM s nm np (f+1) ts ps l).ok=true then DQ (.atom 0 none) (CM s nm np (f+1) ts ps l).rest else F (CM s nm np (f+1) ts ps l).rest:=by
 induction f generalizing ts ps t l with
 |zero=>
  rw[QI,CM];cases h1:Ep l
  ·simp only[Bk,An,AM];have:Bw l=AD l:=by unfold Bw Hc;unfold Ep at h1;rw[Bb]at h1;rw[h1.1,h1.2];simp
   rw[this]
  ·simp only[AV,AM,Bk];rw[QH];cases q:AX (Bw l) 41
   ·have h2:¬t<2:=by omega
    simp only[An,AM,h2,IQ,FK,DC _ _ q]
   ·simp
 |succ f j=>
  rw[QI,CM];cases h1:Ep l
  ·simp only[Bk,An,AM];have:Bw l=AD l:=by unfold Bw Hc;unfold Ep at h1;rw[Bb]at h1;rw[h1.1,h1.2];simp
   rw[this]
  ·simp only[AV,AM,show ¬f+1=0 by omega];rw[QH];have h2:t<2:=by omega
   cases h44:AX (Bw l) 44
   ·simp only[Bk,Dn,An,AM,DC _ _ h44,E7,FU];cases q:AX (Bw l) 41
    ·simp only[An,AM,DC _ _ q]
    ·simp
   ·have q:AX (Bw l) 41=false:=by unfold AX at h44⊢;rw[Co]at h44;rw[h44];rfl
    simp only[q,An,AM,BD,h2,JT,Bk,AV];exact j _ _ (t+1) (by omega) _
theorem dO(l:B8):DQ (.named 0 none) l=if AX l 40=true then DQ (.opened 0 none 0) (AT l 40) else DQ (.atom 0 none) (AD l):=by
 rw[L0 _ (by intro c hc;simp[Hr,LL,hc])];have hb:=Ds l;cases h40:AX l 40
 ·rw[Af (by simp)];have q:=GI l 40 h40;apply L1
  ·simp only[Hr,LL,hb,q,An,AM]
  ·rfl
 ·rw[Ai rfl];obtain⟨c,r,hs,hc,ht⟩:=ET l 40 (by decide) h40;rw[hs,ht,DQ];have:Hr (.named 0 none) (c.toNat:Int)=some (.opened 0 none 0):=by rw[hc];rfl
  rw[this]
theorem iZ(s:ByteArray)(st:St)(l:B8)(u:∀c,Cf c=true->Hr st c=some st)(z:st.eh=false\/AD l≠[])(k:∀c,small c=true->Hr st c=some (.name 0 none 1))(y:small (hd (AD l))=false->Hr st (hd (AD l))=none):
 DQ st l=if(Bf s l).ok=true then DQ (.atom 0 none) (Bf s l).rest else F (Bf s l).rest:=by
 rw[L0 st u];unfold Bf;simp only[];generalize AD l=m at*;cases h1:small (hd m)
 ·simp only[Bk,An,AM]
  cases m with
  |nil=>
   rcases z with h|h
   ·exact WW _ _ (y h1) h
   ·exact absurd rfl h
  |cons c r=>have g:Hr st (c.toNat:Int)=none:=y h1;rw[DQ,g];rfl
 ·simp only[AV,AM]
  cases m with
  |nil=>simp[hd,small]at h1
  |cons c r=>
   have j:small (c.toNat:Int)=true:=h1;have e:Bt Ax 12 (c::r)=Bt Ax 11 r+1:=by rw[Bt,Ai (Ed _ j).1]
   rw[DQ,k _ j];simp only[];rw[iX 11 1 rfl,e,Cm,dO];generalize r.drop (Bt Ax 11 r)=q;cases v:AX q 40
   ·simp only[An,AM,Bk,DC _ _ v]
   ·simp only[Bk,AV,AM];exact jA s _ _ 2 [] [] 0 rfl _
theorem lQ(l:B8):DQ (.atom 0 none) l=if(AD l).isEmpty=true then Iq.fin true else F (AD l):=by
 rw[L0 _ (by intro c hc;simp[Hr,hc])];rcases Ee l with hs|⟨c,r,hs,hb⟩
 ·rw[hs];rfl
 ·rw[hs];have q:Hr (.atom 0 none) (c.toNat:Int)=none:=by simp[Hr,hb]
  rw[DQ,q];rfl
def JX(s:ByteArray)(l:B8):B8:=if(Bf s l).ok=true then AD (Bf s l).rest else(Bf s l).rest
def U4(s:ByteArray)(l:B8):Bool:=(Bf s l).ok&&(AD (Bf s l).rest).isEmpty
theorem Ux(s:ByteArray)(l:B8):DQ (.top 0) l=if U4 s l=true then Iq.fin true else F (JX s l):=by
 rw[iZ s (.top 0) l (by intro c hc;simp[Hr,hc]) (.inl rfl) (by intro c hc;obtain⟨_,f2,_,_,_⟩:=Ed c hc;simp[Hr,f2,hc]) (by intro hs;simp only[Hr,Ds l,hs,An,AM])];unfold U4 JX;cases h:(Bf s l).ok
 ·simp
 ·simp only[Bk,BD];exact lQ _
def G5:St->B8->Option St
 |st,[]=>some st
 |st,c::l=>match Hr st (c.toNat:Int) with
  |none=>none
  |some q=>G5 q l
theorem lO(st:St)(u l:B8):DQ st (u++l)=match G5 st u with|some j=>DQ j l|none=>DQ st (u++l):=by
 induction u generalizing st with
 |nil=>rfl
 |cons c u z=>
  rw[List.cons_append,G5]
  cases h:Hr st (c.toNat:Int) with
  |none=>rfl
  |some j=>
   simp only[];rw[DQ,h];simp only[];have:=z j
   cases hr:G5 j u with
   |none=>rfl
   |some q=>rw[hr]at this;simp only[]at this⊢;exact this
theorem Xq(st:St)(u l:B8)(h:G5 st u=none):∃r,DQ st (u++l)=Iq.dead (r++l)/\r≠[]:=by
 induction u generalizing st with
 |nil=>simp[G5]at h
 |cons c u j=>
  rw[G5]at h
  cases hd':Hr st (c.toNat:Int) with
  |none=>exact⟨c::u,by rw[List.cons_append,DQ,hd'],by simp⟩
  |some q=>rw[hd']at h;obtain⟨r,h1,h2⟩:=j q h;exact⟨r,by rw[List.cons_append,DQ,hd'];exact h1,h2⟩
theorem gQ(st q:St)(c:Int)(h:Hr st c=some q):q.tag<7:=by
 unfold Hr LL If at h
 repeat' split at h
 all_goals first|(simp at h;done)|(simp at h;subst h;simp)
theorem Zq(st j:St)(u:B8)(hs:st.tag<7)(h:G5 st u=some j):j.tag<7:=by
 induction u generalizing st with
 |nil=>simp[G5]at h;rw[<-h];exact hs
 |cons c u z=>
  rw[G5]at h
  cases hd':Hr st (c.toNat:Int) with
  |none=>rw[hd']at h;simp at h
  |some q=>rw[hd']at h;exact z q (gQ _ _ _ hd') h
theorem ZO(st:St)(h:st.tag<7):∃e∈B6,DQ st e=Iq.fin true:=by
 obtain⟨tag,k,x,t,v,w⟩:=st;simp only[]at h;have hc:tag=0\/tag=1\/tag=2\/tag=3\/tag=4\/tag=5\/tag=6:=by omega
 rcases hc with rfl|rfl|rfl|rfl|rfl|rfl|rfl
 ·exact⟨[97],by simp[B6],rfl⟩
 ·exact⟨[],by simp[B6],rfl⟩
 ·exact⟨[],by simp[B6],rfl⟩
 ·exact⟨[],by simp[B6],rfl⟩
 ·exact⟨[97,41],by simp[B6],rfl⟩
 ·refine⟨[41],by simp[B6],?_⟩;cases v<;>rfl
 ·exact⟨[41],by simp[B6],rfl⟩
def Oy(l:B8):Bool:=U4 (bs l) l
theorem WG(l:B8):Oy l=true↔DQ (.top 0) l=Iq.fin true:=by
 rw[Ux (bs l) l];unfold Oy;cases hok:U4 (bs l) l
 ·simp only[An,AM,false_iff];unfold F
  split<;>simp[Iq.fin,Iq.dead]
 ·simp
def Td(l:B8):Bool:=B6.any fun e=>Oy (l++e)
theorem Tc(l:B8):Td l=(G5 (.top 0) l).isSome:=by
 unfold Td
 cases hr:G5 (.top 0) l with
 |some st=>
  obtain⟨e,z,j⟩:=ZO st (Zq _ _ _ (by decide) hr);have:Oy (l++e)=true:=by rw[WG,lO,hr];exact j
  simp only[Option.isSome_some,Ey];exact⟨e,z,this⟩
 |none=>simp only[Option.isSome_none,YZ];intro e _ q;rw[WG]at q;obtain⟨r,h1,_⟩:=Xq _ _ e hr;rw[h1]at q;simp[Iq.fin,Iq.dead]at q
def E6(s:B8):Nat->Nat->Nat
 |0,i=>i
 |f+1,i=>if Td (s.take (i+1))=true then E6 s f (i+1) else i
def G4(s:B8):Nat:=E6 s s.length 0
theorem SJ(st:St)(u l:B8):G5 st (u++l)=(G5 st u).bind fun q=>G5 q l:=by
 induction u generalizing st with
 |nil=>rfl
 |cons c u j=>
  rw[List.cons_append,G5,G5]
  cases Hr st (c.toNat:Int) with
  |none=>rfl
  |some q=>exact j q
theorem MP(s:B8)(rest:B8)(u:B8)(hs:s=u++rest)(h1:(G5 (.top 0) u).isSome=true)(h2:∀c r,rest=c::r->G5 (.top 0) (u++[c])=none):G4 s=u.length:=by
 have y:∀f i,f+i=s.length->i<=u.length->E6 s f i=u.length:=by
  intro f
  induction f with
  |zero=>
   intro i j k;have:s.length=u.length+rest.length:=by rw[hs];simp
   simp only[E6];omega
  |succ f v=>
   intro i j k;rw[E6];by_cases q0:i<u.length
   ·have:Td (s.take (i+1))=true:=by
     rw[Tc,hs,JU (by omega)];have q:u=u.take (i+1)++u.drop (i+1):=(Je _ _).symm;rw[q,SJ]at h1
     cases hq:G5 (.top 0) (u.take (i+1)) with
     |none=>rw[hq]at h1;simp at h1
     |some st=>rfl
    rw[Ai this];exact v (i+1) (by omega) (by omega)
   ·have z:i=u.length:=by omega
    subst z
    cases hr:rest with
    |nil=>rw[hs,hr]at j;simp at j
    |cons c r=>
     have hn:=h2 c r hr
     have:Td (s.take (u.length+1))=false:=by
      rw[Tc,hs,hr];have:(u++c::r).take (u.length+1)=u++[c]:=by rw[dQ,C3 (by omega)];simp
      rw[this,hn];rfl
     rw[this,Af (by simp)]
 exact y s.length 0 (by omega) (by omega)
theorem iY(st:St)(l rest:B8)(h:DQ st l=Iq.dead rest):∃u c r,rest=c::r/\l=u++rest/\∃q,G5 st u=some q/\Hr q (c.toNat:Int)=none:=by
 induction l generalizing st with
 |nil=>simp[DQ,Iq.fin,Iq.dead]at h
 |cons c l y=>
  rw[DQ]at h
  cases hd':Hr st (c.toNat:Int) with
  |none=>rw[hd']at h;simp only[Iq.dead,Sum.inl.injEq]at h;exact⟨[],c,l,h.symm,by rw[h];rfl,st,rfl,hd'⟩
  |some q=>rw[hd']at h;obtain⟨u,c',r,h1,h2,j,h3,z⟩:=y q h;exact⟨c::u,c',r,h1,by rw[h2];rfl,j,by rw[G5,hd'];exact h3,z⟩
theorem lP(st:St)(l:B8)(b:Bool)(h:DQ st l=Iq.fin b):(G5 st l).isSome=true:=by
 induction l generalizing st with
 |nil=>rfl
 |cons c l j=>
  rw[DQ]at h;rw[G5]
  cases hd':Hr st (c.toNat:Int) with
  |none=>rw[hd']at h;simp[Iq.fin,Iq.dead]at h
  |some q=>rw[hd']at h;exact j q h
theorem QL(s:ByteArray)(h:U4 s s.data.toList=false):G4 s.data.toList=Bn s (JX s s.data.toList):=by
 have j:=Ux s s.data.toList;rw[h,Af (by simp)]at j;have z:s.size=s.data.toList.length:=by simp
 unfold Bn;rw[z];generalize JX s s.data.toList=rest at*;generalize s.data.toList=l at*
 cases rest with
 |nil=>have:=MP l [] l (by simp) (lP _ _ false j) (by intro c r e;simp at e);simpa using this
 |cons c r=>
  obtain⟨u,c',r',h1,h2,q0,h3,k⟩:=iY _ _ _ j
  injection h1 with h1 q
  subst h1 q
  have:=MP l (c::r) u h2 (by rw[h3];rfl) (by
   intro c2 r2 e
   injection e with e y
   subst e y;rw[SJ,h3]
   simp only[Option.bind_some,G5,k])
  rw[this,h2];simp
end
end Go.Proofs.YtpbfiffgcgnidaaGreatDoor
