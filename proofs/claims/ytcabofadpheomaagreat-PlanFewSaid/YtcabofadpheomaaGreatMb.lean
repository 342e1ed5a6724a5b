/-
 Texts in one: M20.
-/
import Derived.Test.YtcabofadpheomaaGreatMa

section
namespace Go.Sx.M

theorem x9{r:BitVec 64}(h:r≠0#64):∃k,k<64∧r.getLsbD k=true∧r&&& -r=BitVec.twoPow 64 k:=by
 have hex:∃k,r.getLsbD k=true:=Classical.byContradiction fun hn=>h (BitVec.eq_of_getLsbD_eq fun i _=>by
  cases hb:r.getLsbD i with
  |false=>simp
  |true=>exact absurd ⟨i,hb⟩ hn)
 have least:∀n,(∃k,k<n∧r.getLsbD k=true)→∃k,r.getLsbD k=true∧∀j,j<k→r.getLsbD j=false:=by
  intro n
  induction n with
  |zero=>rintro⟨k,h,_⟩;omega
  |succ n ih=>
   rintro⟨k,hk,hb⟩
   by_cases hx:∃k,k<n∧r.getLsbD k=true
   ·exact ih hx
   ·have:k=n:=Classical.byContradiction fun e=>hx ⟨k,by omega,hb⟩
    subst this
    exact⟨k,hb,fun j hj=>by
     cases hj2:r.getLsbD j with
     |false=>rfl
     |true=>exact absurd ⟨j,hj,hj2⟩ hx⟩
 obtain⟨k0,hk0⟩:=hex
 obtain⟨k,hk,hmin⟩:=least (k0+1) ⟨k0,by omega,hk0⟩
 have hk64:k<64:=BitVec.lt_of_getLsbD hk
 refine⟨k,hk64,hk,BitVec.eq_of_getLsbD_eq fun i hi=> ?_⟩
 rw[BitVec.getLsbD_and,BitVec.getLsbD_neg,BitVec.getLsbD_twoPow]
 by_cases e:k=i
 ·subst e
  have:¬∃j,j<k∧r.getLsbD j=true:=fun⟨j,h1,h2⟩=>by rw[hmin j h1] at h2;cases h2
  simp[hk,this,hk64]
 ·rcases Nat.lt_or_ge i k with hlt|hge
  ·simp[hmin i hlt,e]
  ·have:∃j,j<i∧r.getLsbD j=true:=⟨k,by omega,hk⟩
   cases hr:r.getLsbD i<;>simp[this,e,hi]

theorem iJ{r:BitVec 64}(_h:r≠0#64){i:Nat}{k:Nat}(hk:r.getLsbD k=true)(e:r&&& -r=BitVec.twoPow 64 k):(r^^^(r&&& -r)).getLsbD i=(r.getLsbD i&& !decide (i=k)):=by
 rw[e,BitVec.getLsbD_xor,BitVec.getLsbD_twoPow]
 have hk64:k<64:=BitVec.lt_of_getLsbD hk
 by_cases e:i=k
 ·subst e;simp[hk,hk64]
 ·rw[decide_eq_false (show¬k=i from fun h=>e h.symm),decide_eq_false e]
  simp

def ip(r:BitVec 64):Nat:=(List.range 64).countP fun k=> !r.getLsbD k

theorem tI(r:BitVec 64):ip r≤64:=by
 have:=List.countP_le_length (p:=fun k=> !r.getLsbD k) (l:=List.range 64)
 simpa [ip] using this

theorem wx{α:Type}{p q:α→Bool}:∀{l:List α},(∀a∈l,p a=true→q a=true)→(∃a∈l,q a=true∧p a=false)→l.countP p<l.countP q
 | [],_,⟨_,h,_⟩=>by cases h
 |x::l,h1,⟨a,ha,hq,hp⟩=>by
  have hle:l.countP p≤l.countP q:=List.countP_mono_left fun y hy=>h1 y (List.mem_cons_of_mem _ hy)
  rw[List.countP_cons,List.countP_cons]
  rcases List.mem_cons.1 ha with rfl|ha
  ·rw[hq,hp];simp;omega
  ·have:=wx (fun y hy=>h1 y (List.mem_cons_of_mem _ hy)) ⟨a,ha,hq,hp⟩
   have hx:=h1 x List.mem_cons_self
   cases hpx:p x with
   |true=>rw[hx hpx];simp;omega
   |false=>simp;omega

theorem qF{r:BitVec 64}(h:r≠0#64):ip r<ip (r^^^(r&&& -r)):=by
 obtain⟨k,hk64,hk,e⟩:=x9 h
 unfold ip
 refine wx (fun a _ ha=> ?_) ⟨k,List.mem_range.2 hk64, ?_, ?_⟩
 ·rw[iJ h hk e]
  rw[Bool.not_eq_true'] at ha⊢
  rw[ha];rfl
 ·rw[iJ h hk e];simp
 ·simp[hk]

def pqE(x:En)(b c:BitVec 64):En:=⟨(x.v&&&x.m)^^^b,(x.w&&&x.n)^^^c,x.m,x.n,x.len,x.act⟩

theorem E8(x:En){k:Nat}(hk:k<64):nbE x (63-k)=pqE x (BitVec.twoPow 64 k) 0#64:=by
 unfold nbE pqE u0 u1
 rw[if_pos (by omega),if_pos (by omega)]
 rw[show 63-(63-k)=k by omega]

theorem E7(x:En){k:Nat}(hk:k<64):nbE x (127-k)=pqE x 0#64 (BitVec.twoPow 64 k):=by
 unfold nbE pqE u0 u1
 rw[if_neg (by omega),if_neg (by omega)]
 rw[show 127-(127-k)=k by omega]

theorem wP(m n:BitVec 64){k:Nat}(hk:k<64):eH m n (63-k)=m.getLsbD k:=by
 unfold eH
 rw[if_pos (by omega),BitVec.getMsbD_eq_getLsbD]
 simp[show 63-k<64 by omega,show 63-(63-k)=k by omega]

theorem wN(m n:BitVec 64){k:Nat}(hk:k<64):eH m n (127-k)=n.getLsbD k:=by
 unfold eH
 rw[if_neg (by omega),BitVec.getMsbD_eq_getLsbD]
 simp[show 127-k-64<64 by omega,show 63-(127-k-64)=k by omega]

structure PaI(x:En)(L:List En)(r s:BitVec 64)(acc:List En):Prop where
 fst:∀k,r.getLsbD k=true→x.m.getLsbD k=true
 snd:∀k,s.getLsbD k=true→x.n.getLsbD k=true
 len:acc.length≤ip r+ip s
 mem:∀t,t∈acc↔(∃k,x.m.getLsbD k=true∧r.getLsbD k=false∧fM (pqE x (BitVec.twoPow 64 k) 0#64) L=some t)∨∃k,x.n.getLsbD k=true∧s.getLsbD k=false∧fM (pqE x 0#64 (BitVec.twoPow 64 k)) L=some t

theorem PaI.start(x:En)(L:List En):PaI x L x.m x.n []:=by
 refine⟨fun _ h=>h,fun _ h=>h,Nat.zero_le _,fun t=>⟨fun h=>absurd h (by simp), ?_⟩⟩
 rintro (⟨k,h1,h2,_⟩| ⟨k,h1,h2,_⟩)<;>rw[h1] at h2<;>cases h2

theorem PaI.few{x:En}{L:List En}{r s:BitVec 64}{acc:List En}(h:PaI x L r s acc):acc.length≤128:=by
 have:=h.len
 have:=tI r
 have:=tI s
 omega

theorem sm{α:Type}(o:Option α):o.toList.length≤1:=by cases o<;>simp

theorem PaI.step0{x:En}{L:List En}{r s:BitVec 64}{acc:List En}(h:PaI x L r s acc)(hr:r≠0#64):PaI x L (r^^^(r&&& -r)) s (acc++(fM (pqE x (r&&& -r) 0#64) L).toList):=by
 obtain⟨k,hk64,hk,e⟩:=x9 hr
 refine⟨fun i hi=> ?_,h.snd, ?_,fun t=> ?_⟩
 ·rw[iJ hr hk e] at hi
  simp only[Bool.and_eq_true] at hi
  exact h.fst i hi.1
 ·have h1:=h.len
  have h2:=qF hr
  have h3:=sm (fM (pqE x (r&&& -r) 0#64) L)
  rw[List.length_append];omega
 ·rw[List.mem_append,h.mem,Option.mem_toList]
  constructor
  ·rintro ((⟨i,h1,h2,h3⟩|h3)|h3)
   ·exact .inl ⟨i,h1,by rw[iJ hr hk e,h2];rfl,h3⟩
   ·exact .inr h3
   ·rw[e] at h3
    exact .inl ⟨k,h.fst k hk,by rw[iJ hr hk e];simp,h3⟩
  ·rintro (⟨i,h1,h2,h3⟩|h3)
   ·by_cases ei:i=k
    ·subst ei
     exact .inr (by rw[e];exact h3)
    ·rw[iJ hr hk e] at h2
     exact .inl (.inl ⟨i,h1,by simpa [ei] using h2,h3⟩)
   ·exact .inl (.inr h3)

theorem PaI.step1{x:En}{L:List En}{r s:BitVec 64}{acc:List En}(h:PaI x L r s acc)(hr:s≠0#64):PaI x L r (s^^^(s&&& -s)) (acc++(fM (pqE x 0#64 (s&&& -s)) L).toList):=by
 obtain⟨k,hk64,hk,e⟩:=x9 hr
 refine⟨h.fst,fun i hi=> ?_, ?_,fun t=> ?_⟩
 ·rw[iJ hr hk e] at hi
  simp only[Bool.and_eq_true] at hi
  exact h.snd i hi.1
 ·have h1:=h.len
  have h2:=qF hr
  have h3:=sm (fM (pqE x 0#64 (s&&& -s)) L)
  rw[List.length_append];omega
 ·rw[List.mem_append,h.mem,Option.mem_toList]
  constructor
  ·rintro ((h3| ⟨i,h1,h2,h3⟩)|h3)
   ·exact .inl h3
   ·exact .inr ⟨i,h1,by rw[iJ hr hk e,h2];rfl,h3⟩
   ·rw[e] at h3
    exact .inr ⟨k,h.snd k hk,by rw[iJ hr hk e];simp,h3⟩
  ·rintro (h3| ⟨i,h1,h2,h3⟩)
   ·exact .inl (.inl h3)
   ·by_cases ei:i=k
    ·subst ei
     exact .inr (by rw[e];exact h3)
    ·rw[iJ hr hk e] at h2
     exact .inl (.inr ⟨i,h1,by simpa [ei] using h2,h3⟩)

theorem PaI.all{x:En}{L:List En}{acc:List En}(h:PaI x L 0#64 0#64 acc)(t:En):t∈acc↔∃j,j<128∧eH x.m x.n j=true∧fM (nbE x j) L=some t:=by
 rw[h.mem]
 constructor
 ·rintro (⟨k,h1,_,h3⟩| ⟨k,h1,_,h3⟩)
  ·have hk:=BitVec.lt_of_getLsbD h1
   exact⟨63-k,by omega,by rw[wP _ _ hk];exact h1,by rw[E8 x hk];exact h3⟩
  ·have hk:=BitVec.lt_of_getLsbD h1
   exact⟨127-k,by omega,by rw[wN _ _ hk];exact h1,by rw[E7 x hk];exact h3⟩
 ·rintro⟨j,hj,h1,h2⟩
  rcases Nat.lt_or_ge j 64 with hlt|hge
  ·refine .inl ⟨63-j, ?_,by simp, ?_⟩
   ·rw[←wP x.m x.n (by omega),show 63-(63-j)=j by omega];exact h1
   ·rw[←E8 x (by omega),show 63-(63-j)=j by omega];exact h2
  ·refine .inr ⟨127-j, ?_,by simp, ?_⟩
   ·rw[←wN x.m x.n (by omega),show 127-(127-j)=j by omega];exact h1
   ·rw[←E7 x (by omega),show 127-(127-j)=j by omega];exact h2

theorem KU{p t z:En}{L:List En}(hs:Sorted L)(h:fM p L=some t)(hz:z∈L)(he:tdE z=p):cpE t z≤0:=by
 unfold fM at h
 induction L with
 |nil=>cases h
 |cons a L ih=>
  obtain⟨h1,h2⟩:=List.pairwise_cons.1 hs
  rw[List.find?_cons] at h
  by_cases ha:tdE a=p
  ·rw[decide_eq_true ha] at h
   cases h
   rcases List.mem_cons.1 hz with rfl|hz
   ·rw[gx.2 rfl];exact Int.le_refl _
   ·exact h1 z hz
  ·rw[decide_eq_false ha] at h
   rcases List.mem_cons.1 hz with rfl|hz
   ·exact absurd he ha
   ·exact ih h2 h hz

theorem PaI.none{x:En}{L:List En}{acc:List En}(h:PaI x L 0#64 0#64 acc)(h0:acc=[]):paE x L=none:=by
 subst h0
 refine List.find?_eq_none.2 fun y hy hm=> ?_
 obtain⟨j,h1,h2,h3⟩:=qy.1 hm
 cases ht:fM (nbE x j) L with
 |none=>
  have:y∈plE (nbE x j) L:=iI.2 ⟨hy,h3⟩
  rw[iC.1 ht] at this
  cases this
 |some t=>exact absurd ((h.all t).2 ⟨j,h1,h2,ht⟩) (by simp)

theorem PaI.first{x y:En}{L:List En}{acc:List En}(h:PaI x L 0#64 0#64 acc)(hs:Sorted L)(hy:y∈acc)(hmin:∀t∈acc,cpE y t≤0):paE x L=some y:=by
 obtain⟨j,h1,h2,h3⟩:=(h.all y).1 hy
 obtain⟨hyL,hyt⟩:=kM h3
 have hm:mgE x y=true:=qy.2 ⟨j,h1,h2,hyt⟩
 cases hp:paE x L with
 |none=>
  have:=List.find?_eq_none.1 hp y hyL
  rw[hm] at this
  exact absurd rfl this
 |some z=>
  obtain⟨hz,hmz⟩:=pr hp
  have hzy:=Dj hs hp hyL hm
  obtain⟨i,g1,g2,g3⟩:=qy.1 hmz
  cases ht:fM (nbE x i) L with
  |none=>
   have:z∈plE (nbE x i) L:=iI.2 ⟨hz,g3⟩
   rw[iC.1 ht] at this
   cases this
  |some t=>
   have hyt2:=hmin t ((h.all t).2 ⟨i,g1,g2,ht⟩)
   have htz:=KU hs ht hz g3
   rw[nt (gR hyt2 htz) hzy]

structure MnI(l:List En)(i:Nat)(y:En):Prop where
 one:1≤i
 le:i≤l.length
 is:∃j,j<i∧y=at' l j
 all:∀j,j<i→cpE y (at' l j)≤0

theorem MnI.start{l:List En}(h:1≤l.length):MnI l 1 (at' l 0):=
 ⟨Nat.le_refl _,h,⟨0,by omega,rfl⟩,fun j hj=>by rw[show j=0 by omega,gx.2 rfl];exact Int.le_refl _⟩

theorem MnI.less{l:List En}{i:Nat}{y:En}(h:MnI l i y)(hi:i<l.length)(hc:cpE (at' l i) y<0):MnI l (i+1) (at' l i):=
 ⟨by omega,hi,⟨i,by omega,rfl⟩,fun j hj=>by
  by_cases e:j=i
  ·rw[e,gx.2 rfl];exact Int.le_refl _
  ·exact gR (by omega) (h.all j (by omega))⟩

theorem MnI.more{l:List En}{i:Nat}{y:En}(h:MnI l i y)(hi:i<l.length)(hc:¬cpE (at' l i) y<0):MnI l (i+1) y:=
 ⟨by omega,hi,let ⟨j,h1,h2⟩:=h.is;⟨j,by omega,h2⟩,fun j hj=>by
  by_cases e:j=i
  ·rw[e]
   rcases n9 y (at' l i) with h1|h1
   ·exact h1
   ·have e2:cpE (at' l i) y=0:=by omega
    rw[gx.1 e2,gx.2 rfl];exact Int.le_refl _
  ·exact h.all j (by omega)⟩

theorem MnI.mem{l:List En}{i:Nat}{y:En}(h:MnI l i y):y∈l:=by
 obtain⟨j,h1,rfl⟩:=h.is
 have:=h.le
 unfold at'
 rw[List.getD_eq_getElem?_getD,List.getElem?_eq_getElem (by omega)]
 exact List.getElem_mem _

theorem MnI.least{l:List En}{y:En}(h:MnI l l.length y):∀t∈l,cpE y t≤0:=by
 intro t ht
 obtain⟨j,hj,rfl⟩:=List.mem_iff_getElem.1 ht
 have:=h.all j hj
 unfold at' at this
 rw[List.getD_eq_getElem?_getD,List.getElem?_eq_getElem hj] at this
 exact this

end Go.Sx.M
end

