/-
 Texts in one: M25 M26 M27 M28 M29 M30.
-/
import Derived.Test.YtcabofadpheomaaGreatMa

section
namespace Go.Sx.M

def OrB(bad:En→En→Bool)(l:List Sl):Prop:=∀i,i<l.length→∀k,k<i→(at' l k).ok=true→(at' l i).ok=true→bad (at' l k).e (at' l i).e=false
def oZ(x y:En):Bool:=decide (x.len<y.len)
def l8(x y:En):Bool:=abE y x

theorem KC(x:En):oZ x x=false:=by unfold oZ;simp
theorem KD(x:En):l8 x x=false:=by unfold l8 abE;simp

theorem yb{l:List Sl}:KpS l↔OrB oZ l:=by
 constructor
 ·intro h i hi k hk h1 h2
  have:=h i hi k hk
  unfold brS at this
  rw[h1,h2,Bool.and_self,Bool.true_and] at this
  exact this
 ·intro h i hi k hk
  unfold brS
  cases h1:(at' l k).ok with
  |false=>simp
  |true=>
   cases h2:(at' l i).ok with
   |false=>rfl
   |true=>
    have:=h i hi k hk h1 h2
    rw[Bool.and_self,Bool.true_and]
    exact this

theorem rK{l:List Sl}:OrS l↔OrB l8 l:=by
 constructor
 ·intro h i hi k hk h1 h2
  have:=h i hi k hk
  rw[h1,h2] at this
  exact this
 ·intro h i hi k hk
  cases h1:(at' l k).ok with
  |false=>rfl
  |true=>
   cases h2:(at' l i).ok with
   |false=>rfl
   |true=>exact h i hi k hk h1 h2

theorem pu{bad:En→En→Bool}{m:List Sl}(hm:OrB bad m){p:Nat}{s:Sl}(h1:∀i,i<p→i<m.length→(at' m i).ok=true→bad (at' m i).e s.e=false)
  (h2:∀i,p<i→i<m.length→(at' m i).ok=true→bad s.e (at' m i).e=false):OrB bad (m.set p s):=by
 intro i hi k hk a b
 rw[List.length_set] at hi
 rw[gH] at a b⊢
 rw[gH]
 by_cases e1:p=k
 ·rw[if_pos ⟨e1,by omega⟩] at a⊢
  rw[if_neg (by omega)] at b⊢
  exact h2 i (by omega) hi b
 ·rw[if_neg fun h=>e1 h.1] at a⊢
  by_cases e2:p=i
  ·rw[if_pos ⟨e2,hi⟩]
   exact h1 k (by omega) (by omega) a
  ·rw[if_neg fun h=>e2 h.1] at b⊢
   exact hm i hi k hk a b

def stL(l:List Sl)(w:List Wr):List Sl:=w.foldl (fun l x=>l.set x.p.toNat x.s) l

theorem zL(l:List Sl)(x:Wr)(w:List Wr):stL l (x::w)=stL (l.set x.p.toNat x.s) w:=rfl

theorem Nj:∀(w:List Wr) (l:List Sl),(∀x∈w,kY x l.length=true)→apL l w=stL l w
 | [],_,_=>rfl
 |x::w,l,h=>by
  have e:apS l x=l.set x.p.toNat x.s:=by unfold apS;rw[if_pos (h x List.mem_cons_self)]
  rw[zL]
  show apL (apS l x) w=_
  rw[e,Nj w _ fun y hy=>by rw[List.length_set];exact h y (List.mem_cons_of_mem _ hy)]

def inN(s:Sl)(e:En):Nat:=if s.ok=true∧s.e=e then 1 else 0
def cE(l:List Sl)(e:En):Nat:=(ensS l).count e

theorem rU(x:Sl)(l:List Sl)(e:En):cE (x::l) e=inN x e+cE l e:=by
 unfold cE inN ensS
 rw[List.filter_cons]
 cases h:x.ok with
 |false=>simp
 |true=>
  rw[if_pos rfl,List.map_cons,List.count_cons]
  by_cases he:x.e=e
  ·simp[he];omega
  ·simp[he]

theorem Ez:∀(l:List Sl) (p:Nat) (s:Sl) (e:En),p<l.length→cE (l.set p s) e+inN (at' l p) e=cE l e+inN s e
 | [],p,_,_,h=>absurd h (Nat.not_lt_zero _)
 |x::l,0,s,e,_=>by
  rw[List.set_cons_zero,rU,rU]
  show inN s e+cE l e+inN x e=_
  omega
 |x::l,p+1,s,e,h=>by
  have:=Ez l p s e (by simpa using h)
  rw[List.set_cons_succ,rU,rU]
  show inN x e+cE (l.set p s) e+inN (at' l p) e=_
  omega

def uX(bad:En→En→Bool)(l:List Sl)(x:En):Nat→List Nat→Prop
 |k,[]=>(∀j,j<k→(at' l j).ok=true→bad (at' l j).e x=false)∧∀j,k≤j→j<l.length→(at' l j).ok=true→bad x (at' l j).e=false
 |k,q::r=>(q<k∧(at' l q).ok=true∧∀j,q<j→j<k→(at' l j).ok=true→bad (at' l j).e (at' l q).e=false)∧uX bad l x q r
def UpW(bad:En→En→Bool)(l:List Sl)(x:En):Nat→List Nat→Prop
 |k,[]=>(∀j,j≤k→(at' l j).ok=true→bad (at' l j).e x=false)∧∀j,k<j→j<l.length→(at' l j).ok=true→bad x (at' l j).e=false
 |k,q::r=>(k<q∧q<l.length∧(at' l q).ok=true∧∀j,k<j→j<q→(at' l j).ok=true→bad (at' l q).e (at' l j).e=false)∧UpW bad l x q r

structure SomeW(bad:En→En→Bool)(l:List Sl)(x:En)(m:List Sl)(k:Nat)(w:List Wr)(j:Nat):Prop where
 or:OrB bad (stL m (w.take j))
 ct:0<j→∃s:Sl,s.ok=true∧(j<w.length→∃i,i<l.length∧s=at' l i)∧(j=w.length→s=⟨true,x⟩)∧∀e,cE (stL m (w.take j)) e+inN (at' m k) e=cE m e+inN s e

theorem vK{bad:En→En→Bool}{l m:List Sl}{x:En}{k:Nat}(hlen:m.length=l.length)(hm:OrB bad m)(hk:k<l.length)(hput:OrB bad (m.set k ⟨true,x⟩)):∀j,j≤1→SomeW bad l x m k [⟨(k:Int),⟨true,x⟩⟩] j:=by
 intro j hj
 rcases Nat.eq_zero_or_pos j with rfl|h
 ·exact⟨hm,fun h=>absurd h (Nat.lt_irrefl _)⟩
 ·obtain rfl:j=1:=by omega
  have e:stL m (([⟨(k:Int),⟨true,x⟩⟩]:List Wr).take 1)=m.set k ⟨true,x⟩:=by
   show m.set ((k:Int)).toNat _=_
   rw[Int.toNat_natCast]
  refine⟨by rw[e];exact hput,fun _=>⟨⟨true,x⟩,rfl,fun h=>absurd h (by simp),fun _=>rfl,fun e'=> ?_⟩⟩
  rw[e]
  exact Ez m k ⟨true,x⟩ e' (by omega)

theorem sB{bad:En→En→Bool}{l m:List Sl}{x:En}{k q:Nat}{w:List Wr}(hlen:m.length=l.length)(hm:OrB bad m)(hk:k<l.length)(hq:q<l.length)(hqk:q≠k)(ho:(at' l q).ok=true)(hmq:at' m q=at' l q)(hw:0<w.length)
  (h:∀j,j≤w.length→SomeW bad l x (m.set k (at' l q)) q w j):∀j,j≤w.length+1→SomeW bad l x m k (⟨(k:Int),at' l q⟩::w) j:=by
 intro j hj
 rcases Nat.eq_zero_or_pos j with rfl|h0
 ·exact⟨hm,fun h=>absurd h (Nat.lt_irrefl _)⟩
 ·obtain⟨i,rfl⟩:∃i,j=i+1:=⟨j-1,by omega⟩
  obtain⟨h1,h2⟩:=h i (by omega)
  have e:stL m ((⟨(k:Int),at' l q⟩::w).take (i+1))=stL (m.set k (at' l q)) (w.take i):=by
   rw[List.take_succ_cons,zL,Int.toNat_natCast]
  refine⟨by rw[e];exact h1,fun _=> ?_⟩
  have hq2:at' (m.set k (at' l q)) q=at' l q:=by rw[gH,if_neg (fun h=>hqk h.1.symm),hmq]
  have hs:=fun e'=>Ez m k (at' l q) e' (by omega)
  rcases Nat.eq_zero_or_pos i with rfl|hi
  ·refine⟨at' l q,ho,fun _=>⟨q,hq,rfl⟩,fun h=>absurd h (by rw[List.length_cons];omega),fun e'=> ?_⟩
   rw[e]
   exact hs e'
  ·obtain⟨s,g1,g2,g3,g4⟩:=h2 hi
   refine⟨s,g1,fun h=>g2 (by rw[List.length_cons] at h;omega),fun h=>g3 (by rw[List.length_cons] at h;omega),fun e'=> ?_⟩
   have a:=g4 e'
   have b:=hs e'
   rw[hq2] at a
   rw[e]
   omega

theorem uz{bad:En→En→Bool}(hirr:∀x,bad x x=false){l:List Sl}(hl:OrB bad l){x:En}:∀(r:List Nat) (k:Nat) (m:List Sl),m.length=l.length→OrB bad m→k<l.length→(∀j,j<k→at' m j=at' l j)→
  (∀j,k<j→j<l.length→(at' m j).ok=true→∃i,k≤i∧i<l.length∧at' l i=at' m j)→uX bad l x k r→∀j,j≤(enW l x r k).length→SomeW bad l x m k (enW l x r k) j
 | [],k,m,hlen,hm,hk,hb,ha,hd=>by
  refine vK hlen hm hk (pu hm (fun i h1 _ ho=> ?_) fun i h1 h2 ho=> ?_)
  ·rw[hb i h1] at ho⊢
   exact hd.1 i h1 ho
  ·obtain⟨j,j1,j2,j3⟩:=ha i h1 (by omega) ho
   rw[←j3] at ho⊢
   exact hd.2 j j1 j2 ho
 |q::r,k,m,hlen,hm,hk,hb,ha,⟨⟨hqk,ho,hbt⟩,hd⟩=>by
  have hput:OrB bad (m.set k (at' l q)):=pu hm (fun i h1 _ hoi=>by
   rw[hb i h1] at hoi⊢
   rcases Nat.lt_trichotomy i q with h|rfl|h
   ·exact hl q (by omega) i h hoi ho
   ·exact hirr _
   ·exact hbt i h h1 hoi) fun i h1 h2 hoi=>by
    obtain⟨j,j1,j2,j3⟩:=ha i h1 (by omega) hoi
    rw[←j3] at hoi⊢
    exact hl j j2 q (by omega) ho hoi
  refine sB hlen hm hk (by omega) (by omega) ho (hb q hqk) (by rw[hX];omega) (uz hirr hl r q (m.set k (at' l q)) (by rw[List.length_set];exact hlen) hput (by omega) (fun j hj=> ?_) (fun j h1 h2 hoj=> ?_) hd)
  ·rw[gH,if_neg (by omega)]
   exact hb j (by omega)
  ·rw[gH] at hoj⊢
   by_cases e:k=j
   ·rw[if_pos ⟨e,by omega⟩]
    exact⟨q,Nat.le_refl _,by omega,rfl⟩
   ·rw[if_neg fun h=>e h.1] at hoj⊢
    rcases Nat.lt_or_ge j k with h|h
    ·exact⟨j,by omega,h2,(hb j h).symm⟩
    ·obtain⟨i,i1,i2,i3⟩:=ha j (by omega) h2 hoj
     exact⟨i,by omega,i2,i3⟩

theorem Cd{bad:En→En→Bool}(hirr:∀x,bad x x=false){l:List Sl}(hl:OrB bad l){x:En}:∀(r:List Nat) (k:Nat) (m:List Sl),m.length=l.length→OrB bad m→k<l.length→(∀j,k<j→j<l.length→at' m j=at' l j)→
  (∀j,j<k→(at' m j).ok=true→∃i,i≤k∧at' l i=at' m j)→UpW bad l x k r→∀j,j≤(enW l x r k).length→SomeW bad l x m k (enW l x r k) j
 | [],k,m,hlen,hm,hk,hb,ha,hd=>by
  refine vK hlen hm hk (pu hm (fun i h1 _ ho=> ?_) fun i h1 h2 ho=> ?_)
  ·obtain⟨j,j1,j3⟩:=ha i h1 ho
   rw[←j3] at ho⊢
   exact hd.1 j j1 ho
  ·rw[hb i h1 (by omega)] at ho⊢
   exact hd.2 i h1 (by omega) ho
 |q::r,k,m,hlen,hm,hk,hb,ha,⟨⟨hqk,hql,ho,hbt⟩,hd⟩=>by
  have hput:OrB bad (m.set k (at' l q)):=pu hm (fun i h1 _ hoi=>by
   obtain⟨j,j1,j3⟩:=ha i h1 hoi
   rw[←j3] at hoi⊢
   exact hl q hql j (by omega) hoi ho) fun i h1 h2 hoi=>by
    rw[hb i h1 (by omega)] at hoi⊢
    rcases Nat.lt_trichotomy i q with h|rfl|h
    ·exact hbt i h1 h hoi
    ·exact hirr _
    ·exact hl i (by omega) q h ho hoi
  refine sB hlen hm hk hql (by omega) ho (hb q hqk hql) (by rw[hX];omega) (Cd hirr hl r q (m.set k (at' l q)) (by rw[List.length_set];exact hlen) hput hql (fun j hj h2=> ?_) (fun j h1 hoj=> ?_) hd)
  ·rw[gH,if_neg (by omega)]
   exact hb j (by omega) h2
  ·rw[gH] at hoj⊢
   by_cases e:k=j
   ·rw[if_pos ⟨e,by omega⟩]
    exact⟨q,Nat.le_refl _,rfl⟩
   ·rw[if_neg fun h=>e h.1] at hoj⊢
    rcases Nat.lt_or_ge k j with h|h
    ·exact⟨j,by omega,(hb j h (by omega)).symm⟩
    ·obtain⟨i,i1,i3⟩:=ha j (by omega) hoj
     exact⟨i,by omega,i3⟩

def zq(bad:En→En→Bool)(l:List Sl)(x:En)(w:List Wr):Prop:=∃r k,w=enW l x r k∧k<l.length∧(at' l k).ok=false∧(uX bad l x k r∨UpW bad l x k r)

theorem wq{bad:En→En→Bool}{l:List Sl}{x:En}:∀{r:List Nat} {k:Nat},k<l.length→uX bad l x k r→∀q∈r,q<l.length∧(at' l q).ok=true
 | [],_,_,_,_,h=>by cases h
 |q::r,k,hk,⟨⟨h1,h2,_⟩,hd⟩,z,hz=>by
  rcases List.mem_cons.1 hz with rfl|hz
  ·exact⟨by omega,h2⟩
  ·exact wq (by omega) hd z hz

theorem EN{bad:En→En→Bool}{l:List Sl}{x:En}:∀{r:List Nat} {k:Nat},UpW bad l x k r→∀q∈r,q<l.length∧(at' l q).ok=true
 | [],_,_,_,h=>by cases h
 |q::r,k,⟨⟨_,h1,h2,_⟩,hd⟩,z,hz=>by
  rcases List.mem_cons.1 hz with rfl|hz
  ·exact⟨h1,h2⟩
  ·exact EN hd z hz

theorem FC{l:List Sl}{x:En}:∀{r:List Nat} {k:Nat} {y:Wr},y∈enW l x r k→(y.s=⟨true,x⟩∨∃q∈r,y.s=at' l q)∧(y.p=(k:Int)∨∃q∈r,y.p=((q:Nat):Int))
 | [],k,y,h=>by
  rw[enW,List.mem_singleton] at h
  subst h
  exact⟨.inl rfl, .inl rfl⟩
 |q::r,k,y,h=>by
  rw[enW] at h
  rcases List.mem_cons.1 h with rfl|h
  ·exact⟨.inr ⟨q,List.mem_cons_self,rfl⟩, .inl rfl⟩
  ·obtain⟨h1,h2⟩:=FC h
   refine⟨h1.imp_right fun⟨z,hz,e⟩=>⟨z,List.mem_cons_of_mem _ hz,e⟩, .inr ?_⟩
   rcases h2 with e| ⟨z,hz,e⟩
   ·exact⟨q,List.mem_cons_self,e⟩
   ·exact⟨z,List.mem_cons_of_mem _ hz,e⟩

def RtL(l:List Sl):Prop:=∀x∈ensS l,rtE x=true

theorem gn{l:List Sl}{x:En}:x∈ensS l↔∃j,j<l.length∧(at' l j).ok=true∧(at' l j).e=x:=by
 unfold ensS
 rw[List.mem_map]
 constructor
 ·rintro⟨s,hs,rfl⟩
  obtain⟨h1,h2⟩:=List.mem_filter.1 hs
  obtain⟨j,hj,rfl⟩:=fi h1
  exact⟨j,hj,h2,rfl⟩
 ·rintro⟨j,hj,ho,rfl⟩
  exact⟨at' l j,List.mem_filter.2 ⟨fb hj,ho⟩,rfl⟩

structure InsW(bad:En→En→Bool)(l:List Sl)(x:En)(w:List Wr):Prop where
 may:∀y∈w,kY y l.length=true
 some:0<w.length
 or:∀j,j≤w.length→OrB bad (apL l (w.take j))
 same:∀j,j<w.length→∀e,e∈ensS (apL l (w.take j))↔e∈ensS l
 all:(ensS (apL l w)).Perm (x::ensS l)

theorem zB{bad:En→En→Bool}(hirr:∀x,bad x x=false){l:List Sl}(hl:OrB bad l)(hr:RtL l){x:En}(hx:rtE x=true){w:List Wr}(h:zq bad l x w):InsW bad l x w:=by
 obtain⟨r,k,rfl,hk,he,hd⟩:=h
 have hmem:∀q∈r,q<l.length∧(at' l q).ok=true:=hd.elim (fun h=>wq hk h) EN
 have hmay:∀y∈enW l x r k,kY y l.length=true:=fun y hy=>by
  obtain⟨h1,h2⟩:=FC hy
  have hp:0≤y.p∧y.p< (l.length:Int):=by
   rcases h2 with e| ⟨q,hq,e⟩
   ·omega
   ·have:=(hmem q hq).1;omega
  rw[x7 hp]
  unfold rtS
  rcases h1 with e| ⟨q,hq,e⟩
  ·rw[e,hx];simp
  ·have ho:=(hmem q hq).2
   rw[e,ho,hr _ (gn.2 ⟨q,(hmem q hq).1,ho,rfl⟩)];simp
 have hs:∀j,j≤(enW l x r k).length→SomeW bad l x l k (enW l x r k) j:=hd.elim (fun h=>uz hirr hl r k l rfl hl hk (fun _ _=>rfl) (fun j h1 h2 _=>⟨j,by omega,h2,rfl⟩) h)
  fun h=>Cd hirr hl r k l rfl hl hk (fun _ _ _=>rfl) (fun j h1 _=>⟨j,by omega,rfl⟩) h
 have eap:∀j,apL l ((enW l x r k).take j)=stL l ((enW l x r k).take j):=fun j=>Nj _ _ fun y hy=>hmay y (List.mem_of_mem_take hy)
 have e0:∀e,inN (at' l k) e=0:=fun e=>by unfold inN;rw[he];simp
 have hlen:=hX l x r k
 refine⟨hmay,by omega,fun j hj=>by rw[eap];exact (hs j hj).or,fun j hj e=> ?_, ?_⟩
 ·rcases Nat.eq_zero_or_pos j with rfl|h0
  ·rfl
  ·obtain⟨s,g1,g2,_,g4⟩:=(hs j (by omega)).ct h0
   obtain⟨i,hi,rfl⟩:=g2 hj
   have a:=g4 e
   rw[e0,Nat.add_zero] at a
   rw[eap,←List.count_pos_iff,←List.count_pos_iff (l:=ensS l)]
   show 0<cE _ e↔0<cE l e
   by_cases hie:(at' l i).e=e
   ·have:0<cE l e:=List.count_pos_iff.2 (gn.2 ⟨i,hi,g1,hie⟩)
    omega
   ·have:inN (at' l i) e=0:=by unfold inN;rw[if_neg fun h=>hie h.2]
    omega
 ·obtain⟨s,_,_,g3,g4⟩:=(hs _ (Nat.le_refl _)).ct (by omega)
  obtain rfl:=g3 rfl
  have e1:=eap (enW l x r k).length
  rw[List.take_length] at e1 g4
  rw[e1,List.perm_iff_count]
  intro e
  have a:=g4 e
  rw[e0,Nat.add_zero] at a
  show cE _ e=_
  rw[a,List.count_cons]
  unfold inN cE
  by_cases hxe:x=e
  ·rw[if_pos ⟨rfl,hxe⟩,if_pos (by simp[hxe])]
  ·rw[if_neg fun h=>hxe h.2,if_neg (by simpa using hxe)]

end Go.Sx.M
end

section
namespace Go.Sx.M

theorem Dz{x:En}{s:Sl}(h:loS x.len s=false)(ho:s.ok=true):oZ x s.e=false:=by
 unfold loS at h
 rw[ho,Bool.true_and] at h
 exact h
theorem C1{x:En}{s:Sl}(h:shS x.len s=false)(ho:s.ok=true):oZ s.e x=false:=by
 unfold shS at h
 rw[ho,Bool.true_and] at h
 exact h
theorem zo{x:En}{s:Sl}(h:afS x s=false)(ho:s.ok=true):l8 s.e x=false:=by
 unfold afS at h
 rw[ho,Bool.true_and] at h
 exact h
theorem zg{x:En}{s:Sl}(h:bfS x s=false)(ho:s.ok=true):l8 x s.e=false:=by
 unfold bfS at h
 rw[ho,Bool.true_and] at h
 exact h

theorem Kw{l:List Sl}(hk:KpS l){x:En}:∀p,gtS l x.len≤p→p<l.length→(∀j,gtS l x.len≤j→j<p→(at' l j).ok=true)→∃r,zh l (gtS l x.len) x p=enW l x r p∧uX oZ l x p r:=by
 obtain⟨f1,f2,_⟩:=kq l x.len
 obtain⟨t1,t2,_⟩:=io l x.len
 have hle:=yJ hk x.len
 intro p
 induction p using Nat.strongRecOn with
 |_ p ih=>
  intro h1 h2 h3
  by_cases htp:gtS l x.len<p
  ·obtain⟨b1,b2,b3,b4⟩:=p9 l p (p-gtS l x.len) (by omega) (by omega)
   obtain⟨r,e,hd⟩:=ih _ b2 (by omega) (by omega) fun j j1 j2=>h3 j j1 (by omega)
   refine⟨_::r,by rw[qO htp,e];rfl,⟨b2,h3 _ (by omega) b2,fun j j1 j2 hj=> ?_⟩,hd⟩
   have hp1:=h3 (p-1) (by omega) (by omega)
   have:=tw hk (i:=j) (j:=p-1) (by omega) (by omega) hj hp1
   unfold oZ
   rw[decide_eq_false_iff_not]
   omega
  ·obtain rfl:p=gtS l x.len:=by omega
   exact⟨[],by rw[uK htp];rfl,fun j hj ho=>C1 (t2 j hj) ho,fun j j1 j2 ho=>Dz (f2 j (by omega) j2) ho⟩

theorem O6{l:List Sl}(hk:KpS l){x:En}(h0:0<gfS l x.len):∀d p,p+d=gfS l x.len-1→(∀j,p<j→j<gfS l x.len→(at' l j).ok=true)→∃r,zp l (gfS l x.len-1) x p=enW l x r p∧UpW oZ l x p r:=by
 obtain⟨f1,f2,_⟩:=kq l x.len
 obtain⟨t1,t2,_⟩:=io l x.len
 have hle:=yJ hk x.len
 intro d
 induction d using Nat.strongRecOn with
 |_ d ih=>
  intro p h1 h3
  by_cases htp:p<gfS l x.len-1
  ·obtain⟨b1,b2,b3,b4⟩:=qf l p (gfS l x.len-1-p) (by omega)
   obtain⟨r,e,hd⟩:=ih (gfS l x.len-1-abN l p (gfS l x.len-1-p)) (by omega) (abN l p (gfS l x.len-1-p)) (by omega) fun j j1 j2=>h3 j (by omega) j2
   refine⟨_::r,by rw[qT htp,e];rfl,⟨b1,by omega,h3 _ b1 (by omega),fun j j1 j2 hj=> ?_⟩,hd⟩
   have hp1:=h3 (p+1) (by omega) (by omega)
   have:=tw hk (i:=p+1) (j:=j) (by omega) (by omega) hp1 hj
   unfold oZ
   rw[decide_eq_false_iff_not]
   omega
  ·obtain rfl:p=gfS l x.len-1:=by omega
   exact⟨[],by rw[uR htp];rfl,fun j hj ho=>C1 (t2 j (by omega)) ho,fun j j1 j2 ho=>Dz (f2 j (by omega) j2) ho⟩

theorem LL{l:List Sl}(hk:KpS l){x:En}(hno:¬(inG l x.len<0∧dnG l x.len<0∧upG l x.len<0)):zq oZ l x (inO l x):=by
 obtain⟨f1,f2,_⟩:=kq l x.len
 obtain⟨t1,t2,_⟩:=io l x.len
 have hb:0≤dnG l x.len→zq oZ l x (bel l x):=fun h=>by
  obtain⟨p,e,h1,h2,h3⟩:=ws h
  obtain⟨r,e2,hd⟩:=Kw hk (x:=x) p (by omega) h2 h3
  refine⟨r,p,by unfold bel;rw[e,Int.toNat_natCast,e2],h2, ?_, .inl hd⟩
  unfold dnG at e
  rcases fp l (l.length-gtS l x.len) (gtS l x.len) with⟨e',_⟩| ⟨i,e',_,_,a,_⟩
  ·omega
  ·obtain rfl:i=p:=by omega
   exact a
 have ha:0≤upG l x.len→zq oZ l x (abo l x):=fun h=>by
  obtain⟨p,e,h1,h2,h3⟩:=vF h
  obtain⟨r,e2,hd⟩:=O6 hk (x:=x) (by omega) (gfS l x.len-1-p) p (by omega) h3
  refine⟨r,p,by unfold abo;rw[e,Int.toNat_natCast,e2],by omega, ?_, .inr hd⟩
  unfold upG at e
  rcases jy l (gfS l x.len) with⟨e',_⟩| ⟨i,e',_,a,_⟩
  ·omega
  ·obtain rfl:i=p:=by omega
   exact a
 unfold inO
 split
 ·rename_i hi
  split
  ·rename_i hd
   split
   ·rename_i hu;exact absurd ⟨hi,hd,hu⟩ hno
   ·exact ha (by omega)
  ·split
   ·rename_i h;exact ha h.1
   ·exact hb (by omega)
 ·rename_i hi
  unfold inG at hi⊢
  rcases fp l (gtS l x.len-gfS l x.len) (gfS l x.len) with⟨e',_⟩| ⟨i,e',a,b,c,_⟩
  ·omega
  ·rw[e']
   exact⟨[],i,rfl,by omega,c, .inl ⟨fun j hj ho=>C1 (t2 j (by omega)) ho,fun j j1 j2 ho=>Dz (f2 j (by omega) j2) ho⟩⟩

theorem EA{l:List Sl}{x:En}(hle:gfC l x≤gtC l x):∀(f a:Nat) (r:List Nat),f≤l.length→l.length-f≤a→a≤l.length→(a<l.length→(at' l a).ok=true)→
  ((r=[]∧a=l.length-f∧a=gtC l x)∨∃v r',r=v::r'∧v<l.length-f∧(at' l v).ok=true∧uX l8 l x v r'∧∀j,v<j→j<a→(at' l j).ok=true→l8 (at' l j).e (at' l v).e=false)→
  (bwC l x f a r).length≠0→zq l8 l x (bwC l x f a r)
 |0,_,_,_,_,_,_,_,h=>absurd rfl h
 |f+1,a,r,hf,ha,ha2,hao,hr,hne=>by
  obtain⟨f1,f2,_⟩:=iq l x
  obtain⟨t1,t2,_⟩:=iU l x
  unfold bwC at hne⊢
  dsimp only at hne⊢
  have hdown:l.length-1-f=a→uX l8 l x (l.length-1-f) r:=fun hia=>by
   rcases hr with⟨rfl,_,h2⟩| ⟨v,r',rfl,h1,h2,h3,h4⟩
   ·exact⟨fun j hj ho=>zo (t2 j (by omega)) ho,fun j j1 j2 ho=>zg (f2 j (by omega) j2) ho⟩
   ·exact⟨⟨by omega,h2,fun j j1 j2 hj=>h4 j j1 (by omega) hj⟩,h3⟩
  split at hne
  ·rename_i hia
   rw[if_pos hia]
   have hok:=hao (by clear hr;omega)
   rw[←hia] at hok
   rw[if_pos hok] at hne⊢
   obtain⟨g1,g2,g3,g4⟩:=ld l (afS (at' l (l.length-1-f)).e) f (by clear hr;omega)
   refine EA hle f _ _ (by clear hr;omega) g1 g2 (fun hlt=> ?_) (.inr ⟨_,_,rfl,by clear hr;omega,hok,hdown hia,fun j j1 j2 hj=>zo (g3 j (by omega) j2) hj⟩) hne
   rcases g4 with e|e
   ·clear hr;omega
   ·unfold afS at e
    rw[Bool.and_eq_true] at e
    exact e.1
  ·rename_i hia
   rw[if_neg hia]
   split at hne
   ·rename_i hok
    rw[if_pos hok]
    refine EA hle f _ _ (by clear hr;omega) (by clear hr;omega) ha2 hao ?_ hne
    rcases hr with⟨_,h1,_⟩| ⟨v,r',e,h1,h2,h3,h4⟩
    ·omega
    ·exact .inr ⟨v,r',e,by omega,h2,h3,h4⟩
   ·rename_i hok
    rw[if_neg hok]
    have hok:(at' l (l.length-1-f)).ok=false:=by simpa using hok
    refine⟨r,_,rfl,by omega,hok, .inl ?_⟩
    rcases hr with⟨_,h1,_⟩| ⟨v,r',rfl,h1,h2,h3,h4⟩
    ·omega
    ·exact⟨⟨by omega,h2,fun j j1 j2 hj=>h4 j j1 (by omega) hj⟩,h3⟩

theorem EG{l:List Sl}{x:En}(hle:gfC l x≤gtC l x):∀(n a:Nat) (r:List Nat),n≤l.length→a≤n→(0<a→(at' l (a-1)).ok=true)→
  ((r=[]∧a=n∧a=gfC l x)∨∃v r',r=v::r'∧n≤v∧v<l.length∧(at' l v).ok=true∧UpW l8 l x v r'∧∀j,a≤j→j<v→(at' l j).ok=true→l8 (at' l v).e (at' l j).e=false)→
  (avC l x n a r).length≠0→zq l8 l x (avC l x n a r)
 |0,_,_,_,_,_,_,h=>absurd rfl h
 |i+1,a,r,hf,ha,hao,hr,hne=>by
  obtain⟨f1,f2,_⟩:=iq l x
  obtain⟨t1,t2,_⟩:=iU l x
  unfold avC at hne⊢
  have hup:i+1=a→UpW l8 l x i r:=fun hia=>by
   rcases hr with⟨rfl,_,h2⟩| ⟨v,r',rfl,h1,h0,h2,h3,h4⟩
   ·exact⟨fun j hj ho=>zo (t2 j (by omega)) ho,fun j j1 j2 ho=>zg (f2 j (by omega) j2) ho⟩
   ·exact⟨⟨by omega,h0,h2,fun j j1 j2 hj=>h4 j (by omega) j2 hj⟩,h3⟩
  split at hne
  ·rename_i hia
   rw[if_pos hia]
   have hok:=hao (by clear hr;omega)
   rw[←hia,Nat.add_sub_cancel] at hok
   rw[if_pos hok] at hne⊢
   obtain⟨g1,g3,g4⟩:=lf l (bfS (at' l i).e) i
   refine EG hle i _ _ (by clear hr;omega) g1 (fun hlt=> ?_) (.inr ⟨_,_,rfl,Nat.le_refl _,by clear hr;omega,hok,hup hia,fun j j1 j2 hj=>zg (g3 j j1 j2) hj⟩) hne
   rcases g4 with e|e
   ·clear hr;omega
   ·unfold bfS at e
    rw[Bool.and_eq_true] at e
    exact e.1
  ·rename_i hia
   rw[if_neg hia]
   split at hne
   ·rename_i hok
    rw[if_pos hok]
    refine EG hle i _ _ (by clear hr;omega) (by clear hr;omega) hao ?_ hne
    rcases hr with⟨_,h1,_⟩| ⟨v,r',e,h1,h0,h2,h3,h4⟩
    ·omega
    ·exact .inr ⟨v,r',e,by omega,h0,h2,h3,h4⟩
   ·rename_i hok
    rw[if_neg hok]
    have hok:(at' l i).ok=false:=by simpa using hok
    refine⟨r,i,rfl,by clear hr;omega,hok, .inr ?_⟩
    rcases hr with⟨_,h1,_⟩| ⟨v,r',rfl,h1,h0,h2,h3,h4⟩
    ·omega
    ·exact⟨⟨by omega,h0,h2,fun j j1 j2 hj=>h4 j (by omega) j2 hj⟩,h3⟩

theorem Ob{l:List Sl}{x:En}(hle:gfC l x≤gtC l x)(hne:(oC l x).length≠0):zq l8 l x (oC l x):=by
 obtain⟨f1,f2,f3⟩:=iq l x
 obtain⟨t1,t2,t3⟩:=iU l x
 have hb:(qP l x).length≠0→zq l8 l x (qP l x):=fun h=>by
  refine EA hle _ _ _ (Nat.sub_le _ _) (by omega) t1 (fun hlt=> ?_) (.inl ⟨rfl,by omega,rfl⟩) h
  rcases t3 with e|e
  ·omega
  ·unfold afS at e
   rw[Bool.and_eq_true] at e
   exact e.1
 have ha:(qS l x).length≠0→zq l8 l x (qS l x):=fun h=>by
  refine EG hle _ _ _ f1 (Nat.le_refl _) (fun hlt=> ?_) (.inl ⟨rfl,rfl,rfl⟩) h
  rcases f3 with e|e
  ·omega
  ·unfold bfS at e
   rw[Bool.and_eq_true] at e
   exact e.1
 unfold oC at hne⊢
 split at hne
 ·rename_i hi
  rw[if_pos hi]
  split at hne
  ·rename_i h
   rw[if_pos h]
   exact ha hne
  ·rename_i h
   rw[if_neg h]
   exact hb hne
 ·rename_i hi
  rw[if_neg hi]
  unfold inC at hi⊢
  rcases fp l (gtC l x-gfC l x) (gfC l x) with⟨e',_⟩| ⟨i,e',a,b,c,_⟩
  ·omega
  ·rw[e']
   exact⟨[],i,rfl,by omega,c, .inl ⟨fun j hj ho=>zo (t2 j (by omega)) ho,fun j j1 j2 ho=>zg (f2 j (by omega) j2) ho⟩⟩

theorem AS{l:List Sl}(hk:KpS l)(hr:RtL l){x:En}(hx:rtE x=true)(hno:¬(inG l x.len<0∧dnG l x.len<0∧upG l x.len<0)):InsW oZ l x (inO l x):=
 zB KC (yb.1 hk) hr hx (LL hk hno)

theorem DH{l:List Sl}(hk:OrS l)(hr:RtL l){x:En}(hx:rtE x=true)(hle:gfC l x≤gtC l x)(hne:(oC l x).length≠0):InsW l8 l x (oC l x):=
 zB KD (rK.1 hk) hr hx (Ob hle hne)

end Go.Sx.M
end

section
namespace Go.Sx.M

def isO(o:Int):Bool:=decide (o=0)||decide (o=1)
def kpO(o:Int)(l:List Sl):Bool:=if o=0 then kpS l else decide (o=1)&&orE (ensS l)
def wO(o:Int)(l:List Sl)(x:En):List Wr:=if o=0 then inW l x else if o=1 then wC l x else []
def eO(o:Int)(l:List Sl)(x:En):Int:=if o=0 then inE l x else if o=1 then eC l x else 1

def qh(s:Sp)(i:Nat)(y:Sl):List Wr:=
 if y.ok&&alE y.e s.e then (if s.k=2 then [⟨i,zS⟩] else if s.k=1∧y.e.act≠s.e.act then [⟨i,⟨true,s.e⟩⟩] else []) else []
def tcW(l:List Sl)(s:Sp):Nat→List Wr
 |0=>[]
 |i+1=>tcW l s i++qh s i (at' l i)

def okP(o:Int)(s:Sp):Bool:=isO o&&(decide (0≤s.k)&&decide (s.k≤2))&&rtE s.e
def fE(o:Int)(l:List Sl)(s:Sp):List Wr:=if okP o s then (if s.k=0 then wO o l s.e else tcW l s l.length) else []
def gG(o:Int)(l:List Sl)(s:Sp):Int:=if okP o s then (if s.k=0 then eO o l s.e else 0) else 1

def gq(o:Int):List Sp→List Sl→Int
 | [],_=>0
 |s::r,l=>if gG o l s=0 then gq o r (apL l (fE o l s)) else gG o l s
def gy(o:Int):List Sp→List Sl→List Wr
 | [],_=>[]
 |s::r,l=>if gG o l s=0∧gq o r (apL l (fE o l s))=0 then fE o l s++gy o r (apL l (fE o l s)) else []

theorem CD{o:Int}:∀{r:List Sp} {l:List Sl},gq o r l≠0→gy o r l=[]
 | [],_,h=>absurd rfl h
 |s::r,l,h=>by
  rw[gq] at h
  rw[gy]
  split at h
  ·rename_i h1
   rw[if_neg fun hh=>h hh.2]
  ·rename_i h1
   rw[if_neg fun hh=>h1 hh.1]

def ji(o:Int):En→En→Bool:=if o=0 then oZ else l8

theorem LF{o:Int}(ho:isO o=true){l:List Sl}:kpO o l=true↔OrB (ji o) l:=by
 unfold kpO ji
 by_cases h:o=0
 ·rw[if_pos h,if_pos h,nQ,yb]
 ·have h1:o=1:=by
   unfold isO at ho
   rw[Bool.or_eq_true,decide_eq_true_eq,decide_eq_true_eq] at ho
   omega
  rw[if_neg h,if_neg h,decide_eq_true h1,Bool.true_and,xR,rK]

theorem zi{o:Int}{l:List Sl}(h:OrB (ji o) l):orE (ensS l)=true:=by
 unfold ji at h
 split at h
 ·exact Jn (yb.2 h)
 ·exact xR.2 (rK.2 h)

theorem MT{x y:En}(h:alE x y=true)(z:En):meE z x=meE z y:=by
 obtain⟨h1,h2,h3,h4,_⟩:=h9.1 h
 unfold meE
 rw[h1,h2,h3,h4]

theorem FY(o:Int){x y:En}(h:alE x y=true)(z:En):ji o z x=ji o z y∧ji o x z=ji o y z:=by
 have hl:=rZ h
 unfold ji
 split
 ·unfold oZ
  rw[hl];exact⟨rfl,rfl⟩
 ·unfold l8 abE
  rw[hl,MT h z,mM x z,mM y z,MT h z]
  exact⟨rfl,rfl⟩

def UqS(l:List Sl):Prop:=∀i,i<l.length→∀k,k<i→(at' l k).ok=true→(at' l i).ok=true→alE (at' l k).e (at' l i).e=false

theorem mA{l:List Sl}:UqE (ensS l)↔UqS l:=by
 unfold UqE ensS
 rw[List.pairwise_map,List.pairwise_filter,List.pairwise_iff_getElem]
 constructor
 ·intro h i hi k hk h1 h2
  have:=h k i (by omega) hi hk
  rw[fx hi,fx (show k<l.length by omega)] at*
  exact this h1 h2
 ·intro h i j hi hj hij h1 h2
  have:=h j hj i hij
  rw[fx hi,fx hj] at this
  exact this h1 h2

theorem UqS.two{l:List Sl}(h:UqS l){i j:Nat}(hi:i<l.length)(hj:j<l.length)(h1:(at' l i).ok=true)(h2:(at' l j).ok=true)(ha:alE (at' l i).e (at' l j).e=true):i=j:=by
 rcases Nat.lt_trichotomy i j with hh|hh|hh
 ·rw[h j hj i hh h1 h2] at ha;cases ha
 ·exact hh
 ·rw[gz,h i hi j hh h2 h1] at ha;cases ha

theorem Fb{l:List Sl}{i:Nat}(hi:i<l.length){s:Sl}{e:En}:e∈ensS (l.set i s)↔(s.ok=true∧s.e=e)∨∃j,j≠i∧j<l.length∧(at' l j).ok=true∧(at' l j).e=e:=by
 rw[gn,List.length_set]
 constructor
 ·rintro⟨j,hj,ho,he⟩
  rw[gH] at ho he
  by_cases e1:i=j
  ·rw[if_pos ⟨e1,hj⟩] at ho he
   exact .inl ⟨ho,he⟩
  ·rw[if_neg fun h=>e1 h.1] at ho he
   exact .inr ⟨j,fun h=>e1 h.symm,hj,ho,he⟩
 ·rintro (⟨ho,he⟩| ⟨j,h1,hj,ho,he⟩)
  ·exact⟨i,hi,by rw[gH,if_pos ⟨rfl,hi⟩];exact ho,by rw[gH,if_pos ⟨rfl,hi⟩];exact he⟩
  ·exact⟨j,hj,by rw[gH,if_neg fun h=>h1 h.1.symm];exact ho,by rw[gH,if_neg fun h=>h1 h.1.symm];exact he⟩

theorem HO{l:List Sl}(h:UqS l){i:Nat}(_hi:i<l.length)(ho:(at' l i).ok=true){s:Sl}(hs:s.ok=true→alE s.e (at' l i).e=true):UqS (l.set i s):=by
 intro p hp k hk h1 h2
 rw[List.length_set] at hp
 rw[gH] at h1 h2⊢
 rw[gH]
 by_cases e1:i=k
 ·rw[if_pos ⟨e1,by omega⟩] at h1⊢
  rw[if_neg (by omega)] at h2⊢
  have:=h p hp i (by omega) ho h2
  exact rY (fZ (hs h1)) this
 ·rw[if_neg fun h=>e1 h.1] at h1⊢
  by_cases e2:i=p
  ·rw[if_pos ⟨e2,hp⟩] at h2⊢
   have:=h i (by omega) k (by omega) h1 ho
   rw[gz] at this⊢
   exact rY (fZ (hs h2)) this
  ·rw[if_neg fun h=>e2 h.1] at h2⊢
   exact h p hp k hk h1 h2

theorem xh{l:List Sl}{s:Sp}:∀n,(∀i,i<n→(at' l i).ok=true→alE (at' l i).e s.e=false)→tcW l s n=[]
 |0,_=>rfl
 |n+1,h=>by
  rw[tcW,xh n fun i hi=>h i (by omega),List.nil_append]
  unfold qh
  cases ho:(at' l n).ok with
  |false=>rfl
  |true=>rw[h n (Nat.lt_succ_self n) ho];rfl

theorem xg{l:List Sl}{s:Sp}{i:Nat}:∀n,i<n→(∀j,j<n→j≠i→(at' l j).ok=true→alE (at' l j).e s.e=false)→tcW l s n=qh s i (at' l i)
 |0,h,_=>absurd h (Nat.not_lt_zero _)
 |n+1,hi,h=>by
  rw[tcW]
  by_cases e:i=n
  ·subst e
   rw[xh i fun j hj=>h j (by omega) (by omega),List.nil_append]
  ·rw[xg n (by omega) fun j hj=>h j (by omega)]
   have:qh s n (at' l n)=[]:=by
    unfold qh
    cases ho:(at' l n).ok with
    |false=>rfl
    |true=>rw[h n (Nat.lt_succ_self n) (fun h=>e h.symm) ho];rfl
   rw[this,List.append_nil]

inductive StepP(cur:List En)(s:Sp):Prop
 |add (h:s.k=0) (hn:∀x∈cur,alE x s.e=false)
 |set (h:s.k=1) (z:En) (hz:z∈cur) (ha:alE z s.e=true)
 |drop (h:s.k=2)

structure OneP(o:Int)(l:List Sl)(cur:List En)(s:Sp):Prop where
 err:gG o l s=0
 may:∀y∈fE o l s,kY y l.length=true
 or:∀j,j≤(fE o l s).length→OrB (ji o) (apL l ((fE o l s).take j))
 same:∀j,j< (fE o l s).length→∀e,e∈ensS (apL l ((fE o l s).take j))↔e∈ensS l
 all:(ensS (apL l (fE o l s))).Perm (doE cur s)

theorem ta{o:Int}{s:Sp}(ho:isO o=true)(hx:rtE s.e=true)(hk:s.k=0∨s.k=1∨s.k=2):okP o s=true:=by
 unfold okP
 rw[ho,hx,decide_eq_true (show 0≤s.k by omega),decide_eq_true (show s.k≤2 by omega)]
 rfl

theorem Ot{o:Int}(ho:isO o=true){l:List Sl}(hl:OrB (ji o) l)(hr:RtL l){x:En}(hx:rtE x=true)(hp:o=1→PfE x∧∀e∈ensS l,PfE e):
  (eO o l x=3∧(ensS l).length=l.length)∨(eO o l x=0∧InsW (ji o) l x (wO o l x)):=by
 by_cases h:o=0
 ·subst h
  have hk:KpS l:=yb.2 hl
  have hkb:=nQ.2 hk
  have hfull:=Bz l x.len hk
  unfold eO wO inE inW
  rw[if_pos rfl,if_pos rfl,hx,hkb,Bool.and_self,if_pos rfl,if_pos rfl,if_pos rfl]
  by_cases hf:inG l x.len<0∧dnG l x.len<0∧upG l x.len<0
  ·rw[if_pos hf];exact .inl ⟨rfl,hfull.1 hf⟩
  ·rw[if_neg hf];exact .inr ⟨rfl,AS hk hr hx hf⟩
 ·have h1:o=1:=by
   unfold isO at ho
   rw[Bool.or_eq_true,decide_eq_true_eq,decide_eq_true_eq] at ho
   omega
  subst h1
  have hk:OrS l:=rK.2 hl
  have hkb:=xR.2 hk
  obtain⟨p1,p2⟩:=hp rfl
  have hle:=LT hk p1 fun j hj hoj=>p2 _ (gn.2 ⟨j,hj,hoj,rfl⟩)
  have hc:okC l x=true:=by unfold okC;rw[hkb,decide_eq_true hle];rfl
  have e1:eO 1 l x=eC l x:=by unfold eO;rw[if_neg h,if_pos rfl]
  have e2:wO 1 l x=wC l x:=by unfold wO;rw[if_neg h,if_pos rfl]
  rw[e1,e2]
  unfold eC wC
  rw[hx,hc,Bool.and_self,if_pos rfl,if_pos rfl,if_pos rfl]
  by_cases hf:(oC l x).length=0
  ·rw[if_pos hf];exact .inl ⟨rfl,(Lt hle).1 hf⟩
  ·rw[if_neg hf];exact .inr ⟨rfl,DH hk hr hx hle hf⟩

theorem HZ{o:Int}(ho:isO o=true){l:List Sl}(hl:OrB (ji o) l)(hr:RtL l){cur:List En}(hc:(ensS l).Perm cur)(hu:UqE cur){s:Sp}(hs:StepP cur s)(hx:rtE s.e=true)(hp:o=1→PfE s.e∧∀e∈cur,PfE e):
  (gG o l s=3∧s.k=0∧(ensS l).length=l.length)∨OneP o l cur s:=by
 have hok:=ta ho hx (hs.casesOn (fun h _=> .inl h) (fun h _ _ _=> .inr (.inl h)) fun h=> .inr (.inr h))
 have eE:gG o l s=if s.k=0 then eO o l s.e else 0:=by unfold gG;rw[if_pos hok]
 have eW:fE o l s=if s.k=0 then wO o l s.e else tcW l s l.length:=by unfold fE;rw[if_pos hok]
 have huS:UqS l:=mA.1 (hu.perm hc.symm)
 --a step of one slot,or of none
 have one:∀{i:Nat} {t:Sl},s.k≠0→i<l.length→(at' l i).ok=true→alE (at' l i).e s.e=true→(t.ok=true→alE t.e (at' l i).e=true)→rtS t=true→(fE o l s=[⟨i,t⟩]∨(fE o l s=[]∧at' l i=t))→
   (ensS (l.set i t)).Perm (doE cur s)→OneP o l cur s:=by
  intro i t hk hi hoi hai hti hrt hw hperm
  have hput:OrB (ji o) (l.set i t):=by
   cases ht:t.ok with
   |false=>
    intro p hp k hk2 h1 h2
    rw[List.length_set] at hp
    rw[gH] at h1 h2
    by_cases e1:i=k
    ·rw[if_pos ⟨e1,by omega⟩,ht] at h1;cases h1
    ·by_cases e2:i=p
     ·rw[if_pos ⟨e2,hp⟩,ht] at h2;cases h2
     ·rw[if_neg fun h=>e1 h.1] at h1
      rw[if_neg fun h=>e2 h.1] at h2
      rw[gH,gH,if_neg fun h=>e1 h.1,if_neg fun h=>e2 h.1]
      exact hl p hp k hk2 h1 h2
   |true=>
    have ha:=hti ht
    refine pu hl (fun j h1 h2 hj=> ?_) fun j h1 h2 hj=> ?_
    ·rw[(FY o ha _).1];exact hl i hi j h1 hj hoi
    ·rw[(FY o ha _).2];exact hl j h2 i h1 hoi hj
  rcases hw with hw| ⟨hw,ht⟩
  ·have hm:kY ⟨(i:Int),t⟩ l.length=true:=by rw[x7 (by show 0≤(i:Int)∧(i:Int)<l.length;omega)];exact hrt
   have eap:apL l [⟨(i:Int),t⟩]=l.set i t:=by
    rw[Mw]
    unfold apS
    rw[if_pos hm,show ((i:Int)).toNat=i from Int.toNat_natCast i]
   refine⟨by rw[eE,if_neg hk],fun y hy=> ?_,fun j hj=> ?_,fun j hj e=> ?_, ?_⟩
   ·rw[hw,List.mem_singleton] at hy
    rw[hy];exact hm
   ·rw[hw] at hj⊢
    rcases Nat.eq_zero_or_pos j with rfl|h0
    ·exact hl
    ·rw[List.take_of_length_le (show ([⟨(i:Int),t⟩]:List Wr).length≤j from h0),eap];exact hput
   ·rw[hw] at hj⊢
    have:j=0:=by simpa using hj
    subst this;rfl
   ·rw[hw,eap];exact hperm
  ·have el:l.set i t=l:=OI (by rw[List.length_set]) fun j hj=>by
    rw[gH]
    split
    ·rename_i h;rw[←h.1,ht]
    ·rfl
   rw[el] at hperm
   refine⟨by rw[eE,if_neg hk],fun y hy=>(by rw[hw] at hy;cases hy),fun j _=> ?_,fun j hj=> ?_, ?_⟩
   ·rw[hw,List.take_nil];exact hl
   ·rw[hw] at hj;exact absurd hj (Nat.not_lt_zero _)
   ·rw[hw];exact hperm
 have others:∀{i:Nat},i<l.length→(at' l i).ok=true→alE (at' l i).e s.e=true→∀j,j<l.length→j≠i→(at' l j).ok=true→alE (at' l j).e s.e=false:=by
  intro i hi h1 h2 j hj hne h3
  cases e:alE (at' l j).e s.e with
  |false=>rfl
  |true=>exact absurd (huS.two hj hi h3 h1 (gF e (fZ h2))) hne
 cases hs with
 |add hk hn=>
  rw[if_pos hk] at eE eW
  rcases Ot ho hl hr hx (fun h=>⟨(hp h).1,fun e he=>(hp h).2 e (hc.mem_iff.1 he)⟩) with⟨h1,h2⟩| ⟨h1,h2⟩
  ·exact .inl ⟨by rw[eE,h1],hk,h2⟩
  ·refine .inr ⟨by rw[eE,h1],by rw[eW];exact h2.may,by rw[eW];exact h2.or,by rw[eW];exact h2.same, ?_⟩
   rw[eW]
   have e:doE cur s=cur++[s.e]:=by unfold doE;rw[if_pos hk]
   rw[e]
   exact h2.all.trans ((List.Perm.cons _ hc).trans (List.perm_append_singleton _ _).symm)
 |set hk z hz hza=>
  rw[if_neg (by omega)] at eW
  obtain⟨i,hi,hoi,hie⟩:=gn.1 (hc.mem_iff.2 hz)
  rw[←hie] at hza hz
  have ho2:=others hi hoi hza
  have hsk:s=⟨1,s.e⟩:=by
   obtain⟨k,e⟩:=s
   simp only at hk
   rw[hk]
  obtain⟨u,m⟩:=J4 hu hz hza
  rw[←hsk] at u m
  refine .inr (one (t:=⟨true,s.e⟩) (by omega) hi hoi hza (fun _=>fZ hza) (by unfold rtS;rw[hx];simp) ?_ ?_)
  ·rw[eW,xg l.length hi ho2]
   unfold qh
   rw[hoi,hza,Bool.and_self,if_pos rfl,if_neg (by omega)]
   by_cases ha:(at' l i).e.act=s.e.act
   ·right
    rw[if_neg fun h=>h.2 ha]
    refine⟨rfl, ?_⟩
    have h1:=zn hza ha
    have:at' l i=⟨(at' l i).ok,(at' l i).e⟩:=rfl
    rw[this,hoi,h1]
   ·left
    rw[if_pos ⟨hk,ha⟩]
  ·refine (mA.2 (HO huS hi hoi fun _=>fZ hza)).ext u fun e=> ?_
   rw[Fb hi,m]
   constructor
   ·rintro (⟨_,h⟩| ⟨j,hj,hjl,hoj,rfl⟩)
    ·exact .inl h.symm
    ·exact .inr ⟨hc.mem_iff.1 (gn.2 ⟨j,hjl,hoj,rfl⟩),ho2 j hjl hj hoj⟩
   ·rintro (rfl| ⟨h1,h2⟩)
    ·exact .inl ⟨rfl,rfl⟩
    ·obtain⟨j,hj,hoj,rfl⟩:=gn.1 (hc.mem_iff.2 h1)
     exact .inr ⟨j,(fun h=>by rw[h,hza] at h2;cases h2),hj,hoj,rfl⟩
 |drop hk=>
  rw[if_neg (by omega)] at eW
  have hsk:s=⟨2,s.e⟩:=by
   obtain⟨k,e⟩:=s
   simp only at hk
   rw[hk]
  obtain⟨u,m⟩:=FE (y:=s.e) hu
  rw[←hsk] at u m
  by_cases hex:∃i,i<l.length∧(at' l i).ok=true∧alE (at' l i).e s.e=true
  ·obtain⟨i,hi,hoi,hza⟩:=hex
   have ho2:=others hi hoi hza
   refine .inr (one (t:=zS) (by omega) hi hoi hza (fun h=>by cases h) (by unfold rtS;simp) ?_ ?_)
   ·rw[eW,xg l.length hi ho2]
    unfold qh
    rw[hoi,hza,Bool.and_self,if_pos rfl,if_pos hk]
    exact .inl rfl
   ·refine (mA.2 (HO huS hi hoi fun h=>by cases h)).ext u fun e=> ?_
    rw[Fb hi,m]
    constructor
    ·rintro (⟨h,_⟩| ⟨j,hj,hjl,hoj,rfl⟩)
     ·cases h
     ·exact⟨hc.mem_iff.1 (gn.2 ⟨j,hjl,hoj,rfl⟩),ho2 j hjl hj hoj⟩
    ·rintro⟨h1,h2⟩
     obtain⟨j,hj,hoj,rfl⟩:=gn.1 (hc.mem_iff.2 h1)
     exact .inr ⟨j,(fun h=>by rw[h,hza] at h2;cases h2),hj,hoj,rfl⟩
  ·have hn:∀i,i<l.length→(at' l i).ok=true→alE (at' l i).e s.e=false:=fun i hi h1=>by
    cases e:alE (at' l i).e s.e with
    |false=>rfl
    |true=>exact absurd ⟨i,hi,h1,e⟩ hex
   have hw:fE o l s=[]:=by rw[eW,xh l.length hn]
   refine .inr ⟨by rw[eE,if_neg (by omega)],fun y hy=>(by rw[hw] at hy;cases hy),fun j _=> ?_,fun j hj=> ?_, ?_⟩
   ·rw[hw,List.take_nil];exact hl
   ·rw[hw] at hj;exact absurd hj (Nat.not_lt_zero _)
   ·rw[hw]
    refine (mA.2 huS).ext u fun e=> ?_
    rw[m]
    show e∈ensS l↔_
    rw[hc.mem_iff]
    refine⟨fun h=>⟨h, ?_⟩,fun h=>h.1⟩
    obtain⟨j,hj,hoj,rfl⟩:=gn.1 (hc.mem_iff.2 h)
    exact hn j hj hoj

end Go.Sx.M
end

section
namespace Go.Sx.M

def Mix(a b cur:List En):Prop:=
 (∀z∈cur,(z∈b∧∀y∈b,z.len<y.len→y∈cur)∨(z∈a∧∀x∈a,z.len<x.len→x∈cur∨∃y∈cur,alE y x=true))∧
 ((∀x∈a,x∈cur∨∃y∈cur,alE y x=true)∨∀y∈b,y∈cur)

theorem I5{a b cur l:List En}(ha:siE a=true)(hb:siE b=true)(hm:Mix a b cur)(he:∀e,e∈l↔e∈cur)(c d:BitVec 64):tlI l c d=tlI a c d∨tlI l c d=tlI b c d:=by
 have ex:∀{x:En},(∃y∈cur,alE y x=true)→∃y∈l,alE y x=true:=fun⟨y,h1,h2⟩=>⟨y,(he y).2 h1,h2⟩
 refine xf ha hb (fun z hz=> ?_) (hm.2.imp (fun h x hx=>(h x hx).imp (he x).2 ex) fun h y hy=>(he y).2 (h y hy))
 exact (hm.1 z ((he z).1 hz)).imp (fun h=>⟨h.1,fun y hy hl=>(he y).2 (h.2 y hy hl)⟩) fun h=>⟨h.1,fun x hx hl=>(h.2 x hx hl).imp (he x).2 ex⟩

def uW(a b:List En):List Sp→List En→Prop
 | [],cur=>UqE cur∧Mix a b cur∧cur.Perm b
 |s::r,cur=>(UqE cur∧Mix a b cur∧StepP cur s∧(s.e∈a∨s.e∈b))∧uW a b r (doE cur s)

theorem uW.here{a b:List En}{S:List Sp}{cur:List En}(h:uW a b S cur):UqE cur∧Mix a b cur:=by
 cases S with
 |nil=>exact⟨h.1,h.2.1⟩
 |cons s r=>exact⟨h.1.1,h.1.2.1⟩

theorem Mix.mem{a b cur:List En}(h:Mix a b cur){e:En}(he:e∈cur):e∈a∨e∈b:=(h.1 e he).elim (fun h=> .inr h.1) fun h=> .inl h.1

theorem G6{a b l1:List En}(ha:siE a=true)(_hb:siE b=true)(sa:Sorted a)(u1:UqE l1)(m1:∀x,x∈l1↔x∈b∨(x∈a∧∀y∈b,alE y x=false))(ub:UqE b):
  ∀n i,i+n=a.length→uW a b ((a.reverse.drop i).flatMap (stV b)) (((a.reverse.take i).flatMap (stV b)).foldl doE l1):=by
 have ua:=qk ha
 have mix:∀i,i≤a.length→Mix a b (((a.reverse.take i).flatMap (stV b)).foldl doE l1):=fun i hi=>by
  obtain⟨_,m⟩:=l4 ua u1 m1 i hi
  refine⟨fun z hz=> ?_, .inr fun y hy=>(m y).2 (.inl hy)⟩
  rcases (m z).1 hz with hz| ⟨hz,_,hd⟩
  ·exact .inl ⟨hz,fun y hy _=>(m y).2 (.inl hy)⟩
  ·refine .inr ⟨hz,fun x hx hl=> ?_⟩
   cases e2:b.any (fun y=>alE y x) with
   |true=>
    obtain⟨y,hy,hya⟩:=List.any_eq_true.1 e2
    exact .inr ⟨y,(m y).2 (.inl hy),hya⟩
   |false=>
    refine .inl ((m x).2 (.inr ⟨hx,jf.1 e2,fun hc=> ?_⟩))
    have:=CZ sa hz hd hc
    omega
 intro n
 induction n with
 |zero=>
  intro i hi
  have hi:i=a.length:=by omega
  subst hi
  obtain⟨u2,m2⟩:=l4 ua u1 m1 a.length (Nat.le_refl _)
  have e:a.reverse.take a.length=a.reverse:=by rw[←List.length_reverse,List.take_length]
  have e2:a.reverse.drop a.length=[]:=by rw[←List.length_reverse,List.drop_length]
  have hm:=mix a.length (Nat.le_refl _)
  rw[e2]
  refine⟨u2,hm,u2.ext ub fun x=> ?_⟩
  rw[m2,e]
  exact⟨fun h=>h.elim id fun h=>absurd (List.mem_reverse.2 h.1) h.2.2, .inl⟩
 |succ n ih=>
  intro i hi
  have hil:i<a.reverse.length:=by rw[List.length_reverse];omega
  obtain⟨u2,m2⟩:=l4 ua u1 m1 i (by omega)
  have hm:=mix i (by omega)
  have ih:=ih (i+1) (by omega)
  have et:a.reverse.take (i+1)=a.reverse.take i++[at' a.reverse i]:=by rw[List.take_add_one,eZ hil];rfl
  have ed:a.reverse.drop i=at' a.reverse i::a.reverse.drop (i+1):=by rw[List.drop_eq_getElem_cons hil,fx hil]
  have es:[at' a.reverse i].flatMap (stV b)=stV b (at' a.reverse i):=by simp
  rw[et,List.flatMap_append,List.foldl_append,es] at ih
  rw[ed,List.flatMap_cons]
  have hya:at' a.reverse i∈a:=List.mem_reverse.1 (fb hil)
  unfold stV at ih⊢
  split
  ·rename_i h
   rw[if_pos h] at ih
   exact ih
  ·rename_i h
   rw[if_neg h] at ih
   exact⟨⟨u2,hm, .drop rfl, .inl hya⟩,ih⟩

theorem LO{a b l0:List En}(ha:siE a=true)(hb:siE b=true)(sa:Sorted a)(sb:Sorted b)(h0:UqE l0)(hm:∀x,x∈l0↔x∈a):
  ∀n i,i+n=b.length→uW a b ((b.drop i).flatMap (stU a)++a.reverse.flatMap (stV b)) (((b.take i).flatMap (stU a)).foldl doE l0):=by
 have ua:=qk ha
 have ub:=qk hb
 have mix:∀i,i≤b.length→Mix a b (((b.take i).flatMap (stU a)).foldl doE l0):=fun i hi=>by
  obtain⟨_,m⟩:=pb ua ub h0 hm i hi
  have all:∀x∈a,x∈((b.take i).flatMap (stU a)).foldl doE l0∨∃y∈((b.take i).flatMap (stU a)).foldl doE l0,alE y x=true:=fun x hx=>by
   cases e:(b.take i).any (fun y=>alE y x) with
   |false=>exact .inl ((m x).2 (.inr ⟨hx,jf.1 e⟩))
   |true=>
    obtain⟨y,hy,hya⟩:=List.any_eq_true.1 e
    exact .inr ⟨y,(m y).2 (.inl hy),hya⟩
  refine⟨fun z hz=> ?_, .inl all⟩
  rcases (m z).1 hz with hz| ⟨hz,_⟩
  ·exact .inl ⟨List.mem_of_mem_take hz,fun y hy hl=>(m y).2 (.inl (zO sb hz hy hl))⟩
  ·exact .inr ⟨hz,fun x hx _=>all x hx⟩
 intro n
 induction n with
 |zero=>
  intro i hi
  have hi:i=b.length:=by omega
  subst hi
  obtain⟨u1,m1⟩:=pb ua ub h0 hm b.length (Nat.le_refl _)
  rw[List.take_length] at u1 m1
  rw[List.drop_length,List.take_length]
  have:=G6 ha hb sa u1 m1 ub a.length 0 (by omega)
  rw[List.drop_zero,List.take_zero] at this
  exact this
 |succ n ih=>
  intro i hi
  have hil:i<b.length:=by omega
  obtain⟨u1,m1⟩:=pb ua ub h0 hm i (by omega)
  have hmx:=mix i (by omega)
  have ih:=ih (i+1) (by omega)
  have et:b.take (i+1)=b.take i++[at' b i]:=by rw[List.take_add_one,eZ hil];rfl
  have ed:b.drop i=at' b i::b.drop (i+1):=by rw[List.drop_eq_getElem_cons hil,fx hil]
  have es:[at' b i].flatMap (stU a)=stU a (at' b i):=by simp
  rw[et,List.flatMap_append,List.foldl_append,es] at ih
  rw[ed,List.flatMap_cons,List.append_assoc]
  have hyb:at' b i∈b:=fb hil
  have hyn:∀z∈b.take i,alE z (at' b i)=false:=fun z hz=>by
   obtain⟨j,hj,rfl⟩:=fi hz
   rw[List.length_take] at hj
   have e:at' (b.take i) j=at' b j:=by
    unfold at'
    rw[List.getD_eq_getElem?_getD,List.getD_eq_getElem?_getD,List.getElem?_take,if_pos (by omega)]
   rw[e]
   have:=List.pairwise_iff_getElem.1 ub j i (by omega) hil (by omega)
   rw[fx hil,fx (show j<b.length by omega)]
   exact this
  unfold stU at ih⊢
  split
  ·rename_i hf
   rw[hf] at ih
   have hna:∀x∈a,alE x (at' b i)=false:=fun x hx=>by simpa using List.find?_eq_none.1 hf x hx
   refine⟨⟨u1,hmx, .add rfl fun x hx=> ?_, .inr hyb⟩,ih⟩
   rcases (m1 x).1 hx with hx| ⟨hx,_⟩
   ·exact hyn x hx
   ·exact hna x hx
  ·rename_i z hf
   rw[hf] at ih
   dsimp only at ih
   have hza:alE z (at' b i)=true:=List.find?_some (p:=fun x=>alE x (at' b i)) hf
   have hz:z∈a:=List.mem_of_find?_eq_some hf
   have hzL:=(m1 z).2 (.inr ⟨hz,fun u hu=>by rw[gz];exact rY (fZ hza) (by rw[gz];exact hyn u hu)⟩)
   split
   ·rename_i h
    rw[if_pos h] at ih
    exact ih
   ·rename_i h
    rw[if_neg h] at ih
    exact⟨⟨u1,hmx, .set rfl z hzL hza, .inr hyb⟩,ih⟩

theorem KZ{a b l0:List En}(ha:siE a=true)(hb:siE b=true)(h0:l0.Perm a):uW (srE a) (srE b) (stE a b) l0:=by
 have ua:=qk ha
 have ub:=qk hb
 have so:siE (srE a)=true:=by rw[gY (e9 a)];exact ha
 have sn:siE (srE b)=true:=by rw[gY (e9 b)];exact hb
 unfold stE stS
 rw[Dm ua,Dm ub]
 have:=LO so sn (fW a) (fW b) (ua.perm h0.symm) (fun x=>by rw[h0.mem_iff,(e9 a).mem_iff]) (srE b).length 0 (by omega)
 rw[List.drop_zero,List.take_zero] at this
 exact this

theorem o5(l:List Sl)(w v:List Wr):apL l (w++v)=apL (apL l w) v:=by unfold apL;rw[List.foldl_append]

structure AllP(o:Int)(a b:List En)(l:List Sl)(S:List Sp):Prop where
 may:∀y∈gy o S l,kY y l.length=true
 run:∀j,j≤(gy o S l).length→OrB (ji o) (apL l ((gy o S l).take j))∧∃cur,Mix a b cur∧∀e,e∈ensS (apL l ((gy o S l).take j))↔e∈cur
 all:(ensS (apL l (gy o S l))).Perm b

theorem z8{o:Int}(ho:isO o=true){a b:List En}(ra:∀e,e∈a∨e∈b→rtE e=true)(hp:o=1→∀e,e∈a∨e∈b→PfE e):∀(S:List Sp) {cur:List En} {l:List Sl},uW a b S cur→OrB (ji o) l→(ensS l).Perm cur→
  (gq o S l=3∧∃s∈S,s.k=0)∨(gq o S l=0∧AllP o a b l S)
 | [],cur,l,hg,hl,hc=>by
  obtain⟨h1,h2,h3⟩:=hg
  refine .inr ⟨rfl,fun y hy=>(by cases hy),fun j hj=> ?_,hc.trans h3⟩
  rw[gy,List.take_nil]
  exact⟨hl,cur,h2,fun e=>hc.mem_iff⟩
 |s::r,cur,l,⟨⟨h1,h2,h3,h4⟩,hg⟩,hl,hc=>by
  have hrt:RtL l:=fun e he=>ra e (h2.mem (hc.mem_iff.1 he))
  rcases HZ ho hl hrt hc h1 h3 (ra _ h4) (fun h=>⟨hp h _ h4,fun e he=>hp h e (h2.mem he)⟩) with⟨e1,e2,_⟩|h
  ·refine .inl ⟨?_,s,List.mem_cons_self,e2⟩
   rw[gq,if_neg (by omega),e1]
  ·have hlast:=h.or _ (Nat.le_refl _)
   rw[List.take_length] at hlast
   have eE:gq o (s::r) l=gq o r (apL l (fE o l s)):=by rw[gq,if_pos h.err]
   rcases z8 ho ra hp r hg hlast h.all with⟨e1,t,ht,e2⟩| ⟨e1,g⟩
   ·exact .inl ⟨by rw[eE,e1],t,List.mem_cons_of_mem _ ht,e2⟩
   ·have eW:gy o (s::r) l=fE o l s++gy o r (apL l (fE o l s)):=by rw[gy,if_pos ⟨h.err,e1⟩]
    have g1:=g.may
    rw[gk] at g1
    refine .inr ⟨by rw[eE,e1],fun y hy=> ?_,fun j hj=> ?_, ?_⟩
    ·rw[eW] at hy
     exact (List.mem_append.1 hy).elim (h.may y) (g1 y)
    ·rw[eW] at hj⊢
     rw[List.take_append]
     by_cases hlt:j< (fE o l s).length
     ·rw[show j-(fE o l s).length=0 from by omega,List.take_zero,List.append_nil]
      exact⟨h.or j (by omega),cur,h2,fun e=>(h.same j hlt e).trans hc.mem_iff⟩
     ·rw[List.take_of_length_le (by omega),o5]
      exact g.run _ (by rw[List.length_append] at hj;omega)
    ·rw[eW,o5]
     exact g.all

end Go.Sx.M
end

section
namespace Go.Sx.M

def ldS(o:Int):List En→List Sl→Option (List Sl)
 | [],l=>some l
 |x::r,l=>if eO o l x=0 then ldS o r (apL l (wO o l x)) else none

def ldI(n k:Nat):Nat:=if n%7=0 then k else (7*k+3)%n
def ldP(l:List En):List En:=(List.range l.length).map fun k=>at' l (ldI l.length k)

theorem Je:∀n,n≤10→((List.range n).map (ldI n)).Perm (List.range n):=by decide

theorem Jj{l:List En}(h:l.length≤10):(ldP l).Perm l:=by
 have h1:=(Je l.length h).map (at' l)
 rw[List.map_map,I9] at h1
 exact h1

theorem oJ(l:List En):(ldP l).length=l.length:=by unfold ldP;rw[List.length_map,List.length_range]

theorem Fk{o:Int}(ho:isO o=true):∀(xs:List En) (l:List Sl),OrB (ji o) l→RtL l→(∀x∈xs,rtE x=true)→(o=1→(∀x∈xs,PfE x)∧∀e∈ensS l,PfE e)→
  ((∃m,ldS o xs l=some m)↔xs.length+(ensS l).length≤l.length)∧∀m,ldS o xs l=some m→m.length=l.length∧OrB (ji o) m∧RtL m∧(ensS m).Perm (xs++ensS l)
 | [],l,hl,hr,_,_=>by
  have:=fJ l
  refine⟨⟨fun _=>by simpa using this,fun _=>⟨l,rfl⟩⟩,fun m hm=> ?_⟩
  cases hm
  exact⟨rfl,hl,hr,List.Perm.refl _⟩
 |x::r,l,hl,hr,hx,hp=>by
  have hxr:=hx x List.mem_cons_self
  rcases Ot ho hl hr hxr (fun h=>⟨(hp h).1 x List.mem_cons_self,(hp h).2⟩) with⟨h1,h2⟩| ⟨h1,h2⟩
  ·have e:ldS o (x::r) l=none:=by rw[ldS,if_neg (by omega)]
   refine⟨⟨fun⟨m,hm⟩=>(by rw[e] at hm;cases hm),fun h=> ?_⟩,fun m hm=>(by rw[e] at hm;cases hm)⟩
   rw[List.length_cons] at h
   omega
  ·have e:ldS o (x::r) l=ldS o r (apL l (wO o l x)):=by rw[ldS,if_pos h1]
   have hor:=h2.or _ (Nat.le_refl _)
   rw[List.take_length] at hor
   have hmem:∀e∈ensS (apL l (wO o l x)),e=x∨e∈ensS l:=fun e he=>List.mem_cons.1 (h2.all.mem_iff.1 he)
   obtain⟨g1,g2⟩:=Fk ho r (apL l (wO o l x)) hor (fun e he=>(hmem e he).elim (fun h=>h▸hxr) (hr e)) (fun y hy=>hx y (List.mem_cons_of_mem _ hy))
    fun h=>⟨fun y hy=>(hp h).1 y (List.mem_cons_of_mem _ hy),fun e he=>(hmem e he).elim (fun h'=>h'▸(hp h).1 x List.mem_cons_self) ((hp h).2 e)⟩
   have hlen:=h2.all.length_eq
   rw[List.length_cons] at hlen
   rw[gk] at g1
   refine⟨?_,fun m hm=> ?_⟩
   ·rw[e,g1,List.length_cons]
    constructor<;>intro h<;>omega
   ·rw[e] at hm
    obtain⟨k1,k2,k3,k4⟩:=g2 m hm
    refine⟨k1.trans (gk _ _),k2,k3,k4.trans ?_⟩
    refine ((List.Perm.append_left r h2.all).trans ?_)
    rw[List.cons_append]
    exact List.perm_middle

def emS(n:Nat):List Sl:=List.replicate n zS

theorem Nc(n j:Nat):(at' (emS n) j).ok=false:=by
 unfold at' emS
 rw[List.getD_eq_getElem?_getD,List.getElem?_replicate]
 split<;>rfl

theorem yV(n:Nat):ensS (emS n)=[]:=List.eq_nil_iff_forall_not_mem.2 fun e he=>by
 obtain⟨j,_,h,_⟩:=gn.1 he
 rw[Nc] at h;cases h

theorem Qf(bad:En→En→Bool)(n:Nat):OrB bad (emS n):=fun i _ k _ h=>by rw[Nc] at h;cases h

theorem Jf{o:Int}(ho:isO o=true){x:List En}{n:Nat}(hl:x.length≤10)(hx:∀e∈x,rtE e=true)(hp:o=1→∀e∈x,PfE e):
  ((∃m,ldS o (ldP x) (emS n)=some m)↔x.length≤n)∧∀m,ldS o (ldP x) (emS n)=some m→m.length=n∧OrB (ji o) m∧RtL m∧(ensS m).Perm x:=by
 have hm:=Jj hl
 obtain⟨h1,h2⟩:=Fk ho (ldP x) (emS n) (Qf _ n) (fun e he=>by rw[yV] at he;cases he) (fun e he=>hx e (hm.mem_iff.1 he)) fun h=>⟨fun e he=>hp h e (hm.mem_iff.1 he),fun e he=>by rw[yV] at he;cases he⟩
 rw[yV,List.append_nil] at h2
 have e:(emS n).length=n:=List.length_replicate
 rw[yV,oJ,e] at h1
 rw[e] at h2
 exact⟨h1,fun m h=>let ⟨k1,k2,k3,k4⟩:=h2 m h;⟨k1,k2,k3,k4.trans hm⟩⟩

def isT(l:List Sl)(i:Nat):Bool:=(List.range i).any fun k=>(at' l i).ok&&(at' l k).ok&&alE (at' l i).e (at' l k).e
def twW(l:List Sl):Nat→List Wr
 |0=>[]
 |i+1=>if isT l i then twW l i++[⟨i,zS⟩] else twW l i

theorem sk(l:List Sl):∀n,(twW l n).length≤n
 |0=>Nat.le_refl _
 |n+1=>by
  have:=sk l n
  rw[twW]
  split
  ·rw[List.length_append,List.length_singleton];omega
  ·omega

theorem CW(s:Sp)(i:Nat)(y:Sl):(qh s i y).length≤1:=by
 unfold qh
 split
 ·split
  ·simp
  ·split<;>simp
 ·simp

theorem sq(l:List Sl)(s:Sp):∀n,(tcW l s n).length≤n
 |0=>Nat.le_refl _
 |n+1=>by
  have:=sq l s n
  have:=CW s n (at' l n)
  rw[tcW,List.length_append];omega

end Go.Sx.M
end

section
namespace Go.Sx.M

theorem Jd{l:List Sl}:∀(n:Nat),n≤l.length→∀L:List Int,L.Nodup→(∀z∈L,∃j,j<n∧(at' l j).ok=true∧(at' l j).e.len=z)→L.length≤lnS l n
 |0,_,L,_,h=>by
  cases L with
  |nil=>exact Nat.le_refl _
  |cons z L=>obtain⟨j,hj,_⟩:=h z List.mem_cons_self;omega
 |n+1,hn,L,hd,h=>by
  have hk:knS l n=true→∃j,j<n∧(at' l j).ok=true∧(at' l j).e.len=(at' l n).e.len:=fun hk=>by
   unfold knS at hk
   obtain⟨y,hy,hp⟩:=List.any_eq_true.1 hk
   rw[Bool.and_eq_true,decide_eq_true_eq] at hp
   obtain⟨j,hj,rfl⟩:=fi hy
   rw[List.length_take] at hj
   have e:at' (l.take n) j=at' l j:=by
    unfold at'
    rw[List.getD_eq_getElem?_getD,List.getD_eq_getElem?_getD,List.getElem?_take,if_pos (by omega)]
   rw[e] at hp
   exact⟨j,by omega,hp.1,hp.2⟩
  rw[lnS]
  split
  ·have:=Jd (l:=l) n (by omega) (L.erase (at' l n).e.len) (hd.erase _) fun z hz=>by
    obtain⟨h1,h2⟩:=(hd.mem_erase_iff).1 hz
    obtain⟨j,j1,j2,j3⟩:=h z h2
    refine⟨j,Nat.lt_of_le_of_ne (by omega) fun e=> ?_,j2,j3⟩
    rw[e] at j3
    exact h1 j3.symm
   have h2:=List.length_erase_le (a:=(at' l n).e.len) (l:=L)
   by_cases hm:(at' l n).e.len∈L
   ·rw[List.length_erase_of_mem hm] at this;omega
   ·rw[List.erase_of_not_mem hm] at this;omega
  ·rename_i hc
   refine Jd n (by omega) L hd fun z hz=> ?_
   obtain⟨j,j1,j2,j3⟩:=h z hz
   by_cases e:j=n
   ·rw[e] at j2 j3
    have hk2:knS l n=true:=by
     cases hkn:knS l n with
     |true=>rfl
     |false=>rw[j2,hkn] at hc;exact absurd rfl hc
    obtain⟨i,i1,i2,i3⟩:=hk hk2
    exact⟨i,i1,i2,i3.trans j3⟩
   ·exact⟨j,by omega,j2,j3⟩

def O8(l:List Sl)(r:List Nat):Prop:=(r.map fun v=>(at' l v).e.len).Nodup∧∀v∈r,v<l.length∧(at' l v).ok=true

theorem Fi{l:List Sl}{r:List Nat}(h:O8 l r):r.length≤lnS l l.length:=by
 have:=Jd l.length (Nat.le_refl _) (r.map fun v=>(at' l v).e.len) h.1 fun z hz=>by
  obtain⟨v,hv,rfl⟩:=List.mem_map.1 hz
  exact⟨v,(h.2 v hv).1,(h.2 v hv).2,rfl⟩
 rwa [List.length_map] at this

theorem Kv{l:List Sl}{t:Nat}{x:En}:∀p,t≤p→p<l.length→(∀j,t≤j→j<p→(at' l j).ok=true)→∃r,(zh l t x p).length=r.length+1∧O8 l r∧∀v∈r,t≤v∧v<p:=by
 intro p
 induction p using Nat.strongRecOn with
 |_ p ih=>
  intro h1 h2 h3
  by_cases htp:t<p
  ·obtain⟨b1,b2,b3,b4⟩:=p9 l p (p-t) (by omega) (by omega)
   obtain⟨r,e,hd,hb⟩:=ih _ b2 (by omega) (by omega) fun j j1 j2=>h3 j j1 (by omega)
   have eb:=qO (l:=l) (x:=x) htp
   rw[eb]
   generalize blN l p (p-t)=q at b1 b2 b3 b4 e hd hb
   refine⟨q::r,by rw[List.length_cons,e,List.length_cons],⟨?_,fun v hv=> ?_⟩,fun v hv=> ?_⟩
   ·rw[List.map_cons,List.nodup_cons]
    refine⟨fun hm=> ?_,hd.1⟩
    obtain⟨v,hv,he⟩:=List.mem_map.1 hm
    have:=hb v hv
    exact b4 v (by omega) this.2 (he.trans b3)
   ·rcases List.mem_cons.1 hv with rfl|hv
    ·exact⟨by omega,h3 _ (by omega) b2⟩
    ·exact hd.2 v hv
   ·rcases List.mem_cons.1 hv with rfl|hv
    ·omega
    ·have:=hb v hv;omega
  ·exact⟨[],by rw[uK htp];rfl,⟨List.nodup_nil,fun v hv=>by cases hv⟩,fun v hv=>by cases hv⟩

theorem KN{l:List Sl}{t:Nat}{x:En}(ht:t<l.length):∀d p,p+d=t→(∀j,p<j→j≤t→(at' l j).ok=true)→∃r,(zp l t x p).length=r.length+1∧O8 l r∧∀v∈r,p<v∧v≤t:=by
 intro d
 induction d using Nat.strongRecOn with
 |_ d ih=>
  intro p h1 h3
  by_cases htp:p<t
  ·obtain⟨b1,b2,b3,b4⟩:=qf l p (t-p) (by omega)
   obtain⟨r,e,hd,hb⟩:=ih (t-abN l p (t-p)) (by omega) (abN l p (t-p)) (by omega) fun j j1 j2=>h3 j (by omega) j2
   have eb:=qT (l:=l) (x:=x) htp
   rw[eb]
   generalize abN l p (t-p)=q at b1 b2 b3 b4 e hd hb
   refine⟨q::r,by rw[List.length_cons,e,List.length_cons],⟨?_,fun v hv=> ?_⟩,fun v hv=> ?_⟩
   ·rw[List.map_cons,List.nodup_cons]
    refine⟨fun hm=> ?_,hd.1⟩
    obtain⟨v,hv,he⟩:=List.mem_map.1 hm
    have:=hb v hv
    exact b4 v this.1 (by omega) (he.trans b3)
   ·rcases List.mem_cons.1 hv with rfl|hv
    ·exact⟨by omega,h3 _ b1 (by omega)⟩
    ·exact hd.2 v hv
   ·rcases List.mem_cons.1 hv with rfl|hv
    ·omega
    ·have:=hb v hv;omega
  ·exact⟨[],by rw[uR htp];rfl,⟨List.nodup_nil,fun v hv=>by cases hv⟩,fun v hv=>by cases hv⟩

theorem Fr(l:List Sl)(x:En):(inO l x).length≤lnS l l.length+1:=by
 have hb:0≤dnG l x.len→(bel l x).length≤lnS l l.length+1:=fun h=>by
  obtain⟨p,e,h1,h2,h3⟩:=ws h
  obtain⟨r,e2,hd,_⟩:=Kv (l:=l) (t:=gtS l x.len) (x:=x) p (by omega) h2 h3
  have:=Fi hd
  unfold bel
  rw[e,Int.toNat_natCast,e2];omega
 have ha:0≤upG l x.len→(abo l x).length≤lnS l l.length+1:=fun h=>by
  obtain⟨p,e,h1,h2,h3⟩:=vF h
  obtain⟨r,e2,hd,_⟩:=KN (l:=l) (t:=gfS l x.len-1) (x:=x) (by omega) (gfS l x.len-1-p) p (by omega) fun j j1 j2=>h3 j j1 (by omega)
  have:=Fi hd
  unfold abo
  rw[e,Int.toNat_natCast,e2];omega
 unfold inO
 split
 ·split
  ·split
   ·exact Nat.zero_le _
   ·exact ha (by omega)
  ·split
   ·rename_i h;exact ha h.1
   ·exact hb (by omega)
 ·simp

def ChD(l:List Sl):List Nat→Prop
 | []=>True
 | [v]=>v<l.length∧(at' l v).ok=true
 |v::u::r=>(v<l.length∧(at' l v).ok=true∧abE (at' l u).e (at' l v).e=true)∧ChD l (u::r)
def ChU(l:List Sl):List Nat→Prop
 | []=>True
 | [v]=>v<l.length∧(at' l v).ok=true
 |v::u::r=>(v<l.length∧(at' l v).ok=true∧abE (at' l v).e (at' l u).e=true)∧ChU l (u::r)

theorem uD{l:List Sl}{x:En}:∀(f a:Nat) (r:List Nat),f≤l.length→a≤l.length→(a<l.length→(at' l a).ok=true)→ChD l r→(∀v r',r=v::r'→a<l.length→afS (at' l v).e (at' l a)=true)→(bwC l x f a r).length≠0→∃r',(bwC l x f a r).length=r'.length+1∧ChD l r'
 |0,_,_,_,_,_,_,_,h=>absurd rfl h
 |f+1,a,r,hf,ha,hao,hr,hn,hne=>by
  have hnew:l.length-1-f=a→(at' l (l.length-1-f)).ok=true→ChD l ((l.length-1-f)::r):=fun hia hok=>by
   cases r with
   |nil=>exact⟨by omega,hok⟩
   |cons v r'=>
    have:=hn v r' rfl (by omega)
    unfold afS at this
    rw[Bool.and_eq_true] at this
    exact⟨⟨by omega,hok,by rw[hia];exact this.2⟩,hr⟩
  unfold bwC at hne⊢
  dsimp only at hne⊢
  split at hne
  ·rename_i hia
   rw[if_pos hia]
   split at hne
   ·rename_i hok
    rw[if_pos hok]
    obtain⟨g1,g2,g3,g4⟩:=ld l (afS (at' l (l.length-1-f)).e) f (by omega)
    refine uD f _ _ (by omega) g2 (fun hlt=>by
     have:=g4.resolve_left (by omega)
     unfold afS at this
     rw[Bool.and_eq_true] at this
     exact this.1) (hnew hia hok) (fun v r' e hlt=> ?_) hne
    obtain⟨rfl,_⟩:=List.cons.inj e
    exact g4.resolve_left (by omega)
   ·rename_i hok
    exact absurd (by rw[hia];exact hao (by omega)) hok
  ·rename_i hia
   rw[if_neg hia]
   split at hne
   ·rename_i hok
    rw[if_pos hok]
    exact uD f _ _ (by omega) ha hao hr hn hne
   ·rename_i hok
    rw[if_neg hok]
    exact⟨r,by rw[hX],hr⟩

theorem uM{l:List Sl}{x:En}:∀(n a:Nat) (r:List Nat),n≤l.length→a≤n→(0<a→(at' l (a-1)).ok=true)→ChU l r→(∀v r',r=v::r'→0<a→bfS (at' l v).e (at' l (a-1))=true)→(avC l x n a r).length≠0→∃r',(avC l x n a r).length=r'.length+1∧ChU l r'
 |0,_,_,_,_,_,_,_,h=>absurd rfl h
 |i+1,a,r,hf,ha,hao,hr,hn,hne=>by
  have hnew:i+1=a→(at' l i).ok=true→ChU l (i::r):=fun hia hok=>by
   cases r with
   |nil=>exact⟨by omega,hok⟩
   |cons v r'=>
    have:=hn v r' rfl (by omega)
    rw[←hia,Nat.add_sub_cancel] at this
    unfold bfS at this
    rw[Bool.and_eq_true] at this
    exact⟨⟨by omega,hok,this.2⟩,hr⟩
  unfold avC at hne⊢
  split at hne
  ·rename_i hia
   rw[if_pos hia]
   split at hne
   ·rename_i hok
    rw[if_pos hok]
    obtain⟨g1,g3,g4⟩:=lf l (bfS (at' l i).e) i
    refine uM i _ _ (by omega) g1 (fun hlt=>by
     have:=g4.resolve_left (by omega)
     unfold bfS at this
     rw[Bool.and_eq_true] at this
     exact this.1) (hnew hia hok) (fun v r' e hlt=> ?_) hne
    obtain⟨rfl,_⟩:=List.cons.inj e
    exact g4.resolve_left (by omega)
   ·rename_i hok
    exact absurd (by have:=hao (by omega);rwa [←hia,Nat.add_sub_cancel] at this) hok
  ·rename_i hia
   rw[if_neg hia]
   split at hne
   ·rename_i hok
    rw[if_pos hok]
    exact uM i _ _ (by omega) (by omega) hao hr hn hne
   ·rename_i hok
    rw[if_neg hok]
    exact⟨r,by rw[hX],hr⟩

theorem Cg{l:List Sl}(hp:∀e∈ensS l,PfE e):∀r,ChD l r→(∀v∈r,v<l.length∧(at' l v).ok=true)∧r.Pairwise fun v u=>abE (at' l u).e (at' l v).e=true
 | [],_=>⟨(fun v hv=>by cases hv),List.Pairwise.nil⟩
 | [v],h=>⟨(fun w hw=>by rw[List.mem_singleton] at hw;rw[hw];exact h),List.pairwise_singleton _ _⟩
 |v::u::r,⟨⟨h1,h2,h3⟩,h⟩=>by
  obtain⟨g1,g2⟩:=Cg hp (u::r) h
  refine⟨fun w hw=> ?_,List.pairwise_cons.2 ⟨fun w hw=> ?_,g2⟩⟩
  ·rcases List.mem_cons.1 hw with rfl|hw
   ·exact⟨h1,h2⟩
   ·exact g1 w hw
  ·rcases List.mem_cons.1 hw with rfl|hw
   ·exact h3
   ·have pe:∀{q},q<l.length∧(at' l q).ok=true→PfE (at' l q).e:=fun hq=>hp _ (gn.2 ⟨_,hq.1,hq.2,rfl⟩)
    exact tn (pe (g1 u List.mem_cons_self)) (pe ⟨h1,h2⟩) ((List.pairwise_cons.1 g2).1 w hw) h3

theorem Cf{l:List Sl}(hp:∀e∈ensS l,PfE e):∀r,ChU l r→(∀v∈r,v<l.length∧(at' l v).ok=true)∧r.Pairwise fun v u=>abE (at' l v).e (at' l u).e=true
 | [],_=>⟨(fun v hv=>by cases hv),List.Pairwise.nil⟩
 | [v],h=>⟨(fun w hw=>by rw[List.mem_singleton] at hw;rw[hw];exact h),List.pairwise_singleton _ _⟩
 |v::u::r,⟨⟨h1,h2,h3⟩,h⟩=>by
  obtain⟨g1,g2⟩:=Cf hp (u::r) h
  refine⟨fun w hw=> ?_,List.pairwise_cons.2 ⟨fun w hw=> ?_,g2⟩⟩
  ·rcases List.mem_cons.1 hw with rfl|hw
   ·exact⟨h1,h2⟩
   ·exact g1 w hw
  ·rcases List.mem_cons.1 hw with rfl|hw
   ·exact h3
   ·have pe:∀{q},q<l.length∧(at' l q).ok=true→PfE (at' l q).e:=fun hq=>hp _ (gn.2 ⟨_,hq.1,hq.2,rfl⟩)
    exact tn (pe (g1 u List.mem_cons_self)) (pe (g1 w (List.mem_cons_of_mem _ hw))) h3 ((List.pairwise_cons.1 g2).1 w hw)

theorem Oc{l:List Sl}{x:En}(hp:∀e∈ensS l,PfE e):∃E:List En,(oC l x).length≤E.length+1∧(∀e∈E,e∈ensS l)∧E.Pairwise fun e d=>abE d e=true:=by
 obtain⟨f1,f2,f3⟩:=iq l x
 obtain⟨t1,t2,t3⟩:=iU l x
 have none:(oC l x).length=0→∃E:List En,(oC l x).length≤E.length+1∧(∀e∈E,e∈ensS l)∧E.Pairwise fun e d=>abE d e=true:=fun h=>⟨[],by rw[h];exact Nat.zero_le _,(fun e he=>by cases he),List.Pairwise.nil⟩
 have hb:(qP l x).length≠0→∃E:List En,(qP l x).length≤E.length+1∧(∀e∈E,e∈ensS l)∧E.Pairwise fun e d=>abE d e=true:=fun h=>by
  obtain⟨r,e1,hr⟩:=uD (l:=l) (x:=x) (l.length-gtC l x) (gtC l x) [] (Nat.sub_le _ _) t1 (fun hlt=>by
   have:=t3.resolve_left (by omega)
   unfold afS at this
   rw[Bool.and_eq_true] at this
   exact this.1) trivial (fun v r' e=>by cases e) h
  obtain⟨g1,g2⟩:=Cg hp r hr
  refine⟨r.map fun v=>(at' l v).e,by rw[List.length_map];unfold qP;omega,fun e he=> ?_,List.pairwise_map.2 g2⟩
  obtain⟨v,hv,rfl⟩:=List.mem_map.1 he
  exact gn.2 ⟨v,(g1 v hv).1,(g1 v hv).2,rfl⟩
 have ha:(qS l x).length≠0→∃E:List En,(qS l x).length≤E.length+1∧(∀e∈E,e∈ensS l)∧E.Pairwise fun e d=>abE d e=true:=fun h=>by
  obtain⟨r,e1,hr⟩:=uM (l:=l) (x:=x) (gfC l x) (gfC l x) [] f1 (Nat.le_refl _) (fun hlt=>by
   have:=f3.resolve_left (by omega)
   unfold bfS at this
   rw[Bool.and_eq_true] at this
   exact this.1) trivial (fun v r' e=>by cases e) h
  obtain⟨g1,g2⟩:=Cf hp r hr
  refine⟨(r.map fun v=>(at' l v).e).reverse,by rw[List.length_reverse,List.length_map];unfold qS;omega,fun e he=> ?_, ?_⟩
  ·obtain⟨v,hv,rfl⟩:=List.mem_map.1 (List.mem_reverse.1 he)
   exact gn.2 ⟨v,(g1 v hv).1,(g1 v hv).2,rfl⟩
  ·rw[List.pairwise_reverse,List.pairwise_map]
   exact g2
 by_cases h0:(oC l x).length=0
 ·exact none h0
 ·unfold oC at h0⊢
  split at h0
  ·rename_i hi
   rw[if_pos hi]
   split at h0
   ·rename_i h
    rw[if_pos h];exact ha h0
   ·rename_i h
    rw[if_neg h];exact hb h0
  ·rename_i hi
   rw[if_neg hi]
   exact⟨[],by simp,(fun e he=>by cases he),List.Pairwise.nil⟩

theorem LJ(l:List Sl)(x:En):(inW l x).length≤l.length+1:=by
 have h1:=Fr l x
 have h2:=DA l l.length (Nat.le_refl _)
 have h3:=fJ l
 rw[List.take_length] at h2
 unfold inW
 split
 ·omega
 ·exact Nat.zero_le _

theorem HM(o:Int)(l:List Sl)(x:En):(wO o l x).length≤l.length+1:=by
 unfold wO
 split
 ·exact LJ l x
 ·split
  ·exact Ny l x
  ·exact Nat.zero_le _

theorem s7(o:Int)(l:List Sl)(s:Sp):(fE o l s).length≤l.length+1:=by
 unfold fE
 split
 ·split
  ·exact HM o l s.e
  ·exact Nat.le_succ_of_le (sq l s l.length)
 ·exact Nat.zero_le _

theorem CC(o:Int):∀(S:List Sp) (l:List Sl),(gy o S l).length≤S.length*(l.length+1)
 | [],l=>Nat.zero_le _
 |s::r,l=>by
  rw[gy]
  split
  ·have h1:=s7 o l s
   have h2:=CC o r (apL l (fE o l s))
   rw[gk] at h2
   rw[List.length_append,List.length_cons,Nat.succ_mul]
   omega
  ·exact Nat.zero_le _

end Go.Sx.M
end

