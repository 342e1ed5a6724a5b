/-
 Texts in one: L6M L6N L6T L6A L6B L6C L6D L6V.
-/
import Derived.Test.YtcabofadpheomaaGreatLa
import Derived.Test.YtcabofadpheomaaGreatMa
import Derived.Test.YtcabofadpheomaaGreatL2S

section
namespace Go.Sx.M
open Go.Proofs.YtcabofadpheomaaGreat.L1

structure Pf where
 a:BitVec 64
 b:BitVec 64
 len:Int
 deriving DecidableEq,Inhabited

structure Ro where
 p:Pf
 act:Int
 deriving DecidableEq,Inhabited

def mtP(p:Pf)(c d:BitVec 64):Bool:=matchB p.a p.b p.len c d
def cvP(p q:Pf):Bool:=decide (p.len≤q.len)&&mtP p q.a q.b
def cpP(p q:Pf):Int:=rB p.a p.b p.len q.a q.b q.len
def riP(w:Int)(p:Pf):Bool:=gh w p.a p.b p.len
def riR(w:Int)(r:Ro):Bool:=riP w r.p&&(decide (r.act≥1)&&decide (r.act≤255))

theorem qM{p q:Pf}:cpP p q<0↔V p.a p.b<V q.a q.b∨(V p.a p.b=V q.a q.b∧p.len<q.len):=by
 unfold cpP rB orI cmpV cmpI
 split<;>split<;>(try split)<;>(try split)<;>simp_all<;>omega

theorem pY{p q:Pf}:cpP p q=0↔p=q:=by
 unfold cpP
 rw[Hv]
 cases p;cases q;simp

theorem Kb{p q:Pf}:cpP p q>0↔cpP q p<0:=by
 rw[qM]
 unfold cpP rB orI cmpV cmpI
 split<;>split<;>(try split)<;>(try split)<;>simp_all<;>omega

theorem fL{p q r:Pf}(h1:cpP p q<0)(h2:cpP q r<0):cpP p r<0:=by
 rw[qM] at*
 omega

theorem fa(p:Pf):cpP p p=0:=pY.2 rfl

theorem jd{w:Int}{p:Pf}:riP w p=true↔(w=32∨w=128)∧0≤p.len∧p.len≤w∧∀i:Nat,i<128→p.len≤(i:Int)→eH p.a p.b i=false:=Gw

theorem fR{p:Pf}{c d:BitVec 64}:mtP p c d=true↔∀i:Nat,i<128→(i:Int)<p.len→eH p.a p.b i=eH c d i:=GR

theorem fI{p q:Pf}:cvP p q=true↔p.len≤q.len∧∀i:Nat,i<128→(i:Int)<p.len→eH p.a p.b i=eH q.a q.b i:=by
 unfold cvP
 rw[Bool.and_eq_true,decide_eq_true_eq,fR]

theorem qn{w w':Int}{p q:Pf}{c d:BitVec 64}(hp:riP w p=true)(hq:riP w' q=true)(hl:p.len=q.len)(h1:mtP p c d=true)(h2:mtP q c d=true):p=q:=by
 obtain⟨_,_,_,p3⟩:=jd.1 hp
 obtain⟨_,_,_,q3⟩:=jd.1 hq
 rw[fR] at h1 h2
 have:p.a=q.a∧p.b=q.b:=iA fun i hi=>by
  by_cases h:(i:Int)<p.len
  ·rw[h1 i hi h,h2 i hi (by omega)]
  ·rw[p3 i hi (by omega),q3 i hi (by omega)]
 cases p;cases q;simp_all

structure TB(w:Int)(l:List Ro):Prop where
 fam:w=32∨w=128
 most:l.length≤256
 right:∀x∈l,riR w x=true
 sorted:l.Pairwise fun x y=>cpP x.p y.p<0

def tbR(w:Int)(l:List Ro):Bool:=decide ((w=32∨w=128)∧l.length≤256∧(∀i,i<l.length→riR w (at' l i)=true)∧∀i,i<l.length→0<i→cpP (at' l (i-1)).p (at' l i).p<0)

theorem gm{w:Int}{l:List Ro}:tbR w l=true↔TB w l:=by
 unfold tbR
 rw[decide_eq_true_eq]
 constructor
 ·rintro⟨h1,h2,h3,h4⟩
  refine⟨h1,h2,fun x hx=> ?_, ?_⟩
  ·obtain⟨k,hk,rfl⟩:=fi hx
   exact h3 k hk
  ·have key:∀k,k<l.length→∀i,i<k→cpP (at' l i).p (at' l k).p<0:=by
    intro k
    induction k with
    |zero=>intro _ i hi;omega
    |succ k ih=>
     intro hk i hi
     have h5:=h4 (k+1) hk (by omega)
     rw[Nat.add_sub_cancel] at h5
     rcases Nat.lt_or_eq_of_le (Nat.le_of_lt_succ hi) with h|rfl
     ·exact fL (ih (by omega) i h) h5
     ·exact h5
   refine List.pairwise_iff_getElem.2 fun i j hi hj hij=> ?_
   have e1:l[i]=at' l i:=by have:=eZ hi;rw[List.getElem?_eq_getElem hi] at this;exact Option.some_inj.1 this
   have e2:l[j]=at' l j:=by have:=eZ hj;rw[List.getElem?_eq_getElem hj] at this;exact Option.some_inj.1 this
   rw[e1,e2]
   exact key j hj i hij
 ·intro h
  refine⟨h.fam,h.most,fun i hi=>h.right _ (fb hi),fun i hi h0=> ?_⟩
  have:=List.pairwise_iff_getElem.1 h.sorted (i-1) i (by omega) hi (by omega)
  have h':i-1<l.length:=by omega
  have e1:l[i-1]=at' l (i-1):=by have:=eZ h';rw[List.getElem?_eq_getElem h'] at this;exact Option.some_inj.1 this
  have e2:l[i]=at' l i:=by have:=eZ hi;rw[List.getElem?_eq_getElem hi] at this;exact Option.some_inj.1 this
  rw[e1,e2] at this
  exact this

theorem TB.rip{w:Int}{l:List Ro}(h:TB w l){x:Ro}(hx:x∈l):riP w x.p=true:=by
 have:=h.right x hx
 unfold riR at this
 rw[Bool.and_eq_true] at this
 exact this.1

theorem TB.sub{w:Int}{l m:List Ro}(h:TB w l)(hs:m.Sublist l):TB w m:=
 ⟨h.fam,Nat.le_trans hs.length_le h.most,fun x hx=>h.right x (hs.subset hx),h.sorted.sublist hs⟩

theorem TB.one{w:Int}{l:List Ro}(h:TB w l){x y:Ro}(hx:x∈l)(hy:y∈l)(hp:x.p=y.p):x=y:=by
 have:=h.sorted
 induction l with
 |nil=>cases hx
 |cons z l ih=>
  obtain⟨h1,h2⟩:=List.pairwise_cons.1 this
  have h':TB w l:=h.sub (List.sublist_cons_self _ _)
  rcases List.mem_cons.1 hx with rfl|hx'<;>rcases List.mem_cons.1 hy with rfl|hy'
  ·rfl
  ·have:=h1 y hy';rw[hp,fa] at this;omega
  ·have:=h1 x hx';rw[hp,fa] at this;omega
  ·exact ih h' hx' hy' h2

def drR(l:List Ro)(p:Pf):List Ro:=l.filter fun x=> !decide (x.p=p)

def unR(l:List Ro)(p:Pf):List Ro:=l.filter fun x=> !decide (x.p=p)&&cvP p x.p

def AW(l:List Ro)(r:Ro):List Ro:=l.takeWhile (fun x=>decide (cpP x.p r.p≤0))++r::l.dropWhile (fun x=>decide (cpP x.p r.p≤0))

def ptR(l:List Ro)(r:Ro):List Ro:=AW (drR l r.p) r

theorem nP{l:List Ro}{p:Pf}{x:Ro}:x∈drR l p↔x∈l∧x.p≠p:=by
 unfold drR;rw[List.mem_filter];simp

theorem xZ{l:List Ro}{p:Pf}{x:Ro}:x∈unR l p↔x∈l∧x.p≠p∧cvP p x.p=true:=by
 unfold unR;rw[List.mem_filter];simp

theorem Fc{l:List Ro}{r x:Ro}:x∈AW l r↔x=r∨x∈l:=by
 unfold AW
 rw[List.mem_append,List.mem_cons]
 have:=List.takeWhile_append_dropWhile (p:=fun x:Ro=>decide (cpP x.p r.p≤0)) (l:=l)
 constructor
 ·rintro (h|h|h)
  ·exact .inr ((List.takeWhile_sublist _).subset h)
  ·exact .inl h
  ·exact .inr ((List.dropWhile_sublist _).subset h)
 ·rintro (h|h)
  ·exact .inr (.inl h)
  ·rw[←this,List.mem_append] at h
   rcases h with h|h
   ·exact .inl h
   ·exact .inr (.inr h)

theorem iH{l:List Ro}{r x:Ro}:x∈ptR l r↔x=r∨(x∈l∧x.p≠r.p):=by
 unfold ptR;rw[Fc,nP]

theorem DI(l:List Ro)(r:Ro):(AW l r).length=l.length+1:=by
 unfold AW
 have h:(l.takeWhile fun x=>decide (cpP x.p r.p≤0)).length+(l.dropWhile fun x=>decide (cpP x.p r.p≤0)).length=l.length:=by
  rw[←List.length_append,List.takeWhile_append_dropWhile]
 rw[List.length_append,List.length_cons];omega

theorem Ep(l:List Ro)(p:Pf):(drR l p).length≤l.length:=List.length_filter_le _ _

theorem un{w:Int}{l:List Ro}(h:TB w l)(p:Pf):TB w (drR l p):=h.sub List.filter_sublist

theorem tE{l:List Ro}{r:Ro}(h:l.Pairwise fun x y=>cpP x.p y.p<0)(hr:∀x∈l,x.p≠r.p):(AW l r).Pairwise fun x y=>cpP x.p y.p<0:=by
 unfold AW
 induction l with
 |nil=>simp
 |cons y l ih=>
  obtain⟨h1,h2⟩:=List.pairwise_cons.1 h
  have hy:=hr y (by simp)
  by_cases hc:cpP y.p r.p≤0
  ·rw[List.takeWhile_cons_of_pos (by simpa using hc),List.dropWhile_cons_of_pos (by simpa using hc)]
   have hyr:cpP y.p r.p<0:=by
    rcases Int.lt_or_eq_of_le hc with h|h
    ·exact h
    ·exact absurd (pY.1 h) hy
   rw[List.cons_append,List.pairwise_cons]
   refine⟨fun z hz=> ?_,ih h2 fun x hx=>hr x (by simp[hx])⟩
   have hz:z∈AW l r:=hz
   rcases Fc.1 hz with rfl|hz
   ·exact hyr
   ·exact h1 z hz
  ·rw[List.takeWhile_cons_of_neg (by simpa using hc),List.dropWhile_cons_of_neg (by simpa using hc)]
   rw[List.nil_append,List.pairwise_cons]
   refine⟨fun z hz=> ?_,h⟩
   have hry:cpP r.p y.p<0:=Kb.1 (by omega)
   rcases List.mem_cons.1 hz with rfl|hz
   ·exact hry
   ·exact fL hry (h1 z hz)

theorem xL{w:Int}{l:List Ro}{r:Ro}(h:TB w l)(hl:l.length<256)(hr:riR w r=true):TB w (ptR l r):=
 ⟨h.fam,by unfold ptR;rw[DI];have:=Ep l r.p;omega,fun x hx=>by
  rcases iH.1 hx with rfl| ⟨hx,_⟩
  ·exact hr
  ·exact h.right x hx,tE (un h _).sorted fun x hx=>(nP.1 hx).2⟩

theorem sr{l m:List Ro}(hl:l.Pairwise fun x y=>cpP x.p y.p<0)(hm:m.Pairwise fun x y=>cpP x.p y.p<0)(h:∀x,x∈l↔x∈m):l=m:=by
 induction l generalizing m with
 |nil=>
  cases m with
  |nil=>rfl
  |cons y m=>have:=(h y).2 (by simp);cases this
 |cons x l ih=>
  cases m with
  |nil=>have:=(h x).1 (by simp);cases this
  |cons y m=>
   obtain⟨h1,h2⟩:=List.pairwise_cons.1 hl
   obtain⟨g1,g2⟩:=List.pairwise_cons.1 hm
   have exy:x=y:=by
    rcases List.mem_cons.1 ((h x).1 (by simp)) with e|hx
    ·exact e
    ·rcases List.mem_cons.1 ((h y).2 (by simp)) with e|hy
     ·exact e.symm
     ·have a:=g1 x hx
      have b:=h1 y hy
      have:=fL a b
      rw[fa] at this;omega
   subst exy
   rw[ih h2 g2 fun z=> ?_]
   constructor
   ·intro hz
    rcases List.mem_cons.1 ((h z).1 (by simp[hz])) with e|hz'
    ·subst e;have:=h1 z hz;rw[fa] at this;omega
    ·exact hz'
   ·intro hz
    rcases List.mem_cons.1 ((h z).2 (by simp[hz])) with e|hz'
    ·subst e;have:=g1 z hz;rw[fa] at this;omega
    ·exact hz'

end Go.Sx.M
end

section
namespace Go.Sx.M
open Go.Proofs.YtcabofadpheomaaGreat.L1

def fbX{T:Type}[Inhabited T](ok:T→Bool)(ln:T→Int)(l:List T):Nat→Int
 |0=> -1
 |n+1=>if (decide (fbX ok ln l n<0)||decide (ln (at' l n)>ln (at' l (fbX ok ln l n).toNat)))&&ok (at' l n) then (n:Int) else fbX ok ln l n

def FbX{T:Type}[Inhabited T](ok:T→Bool)(ln:T→Int)(l:List T)(n:Nat)(r:Int):Prop:=
 (r= -1∧∀j,j<n→ok (at' l j)=false)∨∃i:Nat,r=i∧i<n∧ok (at' l i)=true∧∀j,j<n→ok (at' l j)=true→ln (at' l j)≤ln (at' l i)∧(j<i→ln (at' l j)<ln (at' l i))

theorem nk{T:Type}[Inhabited T](ok:T→Bool)(ln:T→Int)(l:List T):∀n,FbX ok ln l n (fbX ok ln l n)
 |0=> .inl ⟨rfl,fun j h=>by omega⟩
 |n+1=>by
  have ih:=nk ok ln l n
  unfold fbX
  generalize fbX ok ln l n=r at ih
  cases hm:ok (at' l n) with
  |false=>
   rw[Bool.and_false,if_neg (by simp)]
   rcases ih with⟨h1,h2⟩| ⟨i,h1,h2,h3,h4⟩
   ·exact .inl ⟨h1,fun j hj=>by
     rcases Nat.lt_or_eq_of_le (Nat.le_of_lt_succ hj) with h|rfl
     ·exact h2 j h
     ·exact hm⟩
   ·exact .inr ⟨i,h1,by omega,h3,fun j hj hj2=>by
     rcases Nat.lt_or_eq_of_le (Nat.le_of_lt_succ hj) with h|rfl
     ·exact h4 j h hj2
     ·rw[hm] at hj2;cases hj2⟩
  |true=>
   rw[Bool.and_true]
   rcases ih with⟨rfl,h2⟩| ⟨i,rfl,h2,h3,h4⟩
   ·rw[if_pos (by simp)]
    exact .inr ⟨n,rfl,by omega,hm,fun j hj hj2=>by
     rcases Nat.lt_or_eq_of_le (Nat.le_of_lt_succ hj) with h|rfl
     ·rw[h2 j h] at hj2;cases hj2
     ·exact⟨Int.le_refl _,fun h=>by omega⟩⟩
   ·have e3:((i:Int)).toNat=i:=by omega
    rw[e3,show decide ((i:Int)<0)=false from by simp,Bool.false_or]
    by_cases hl:ln (at' l n)>ln (at' l i)
    ·rw[if_pos (by simpa using hl)]
     exact .inr ⟨n,rfl,by omega,hm,fun j hj hj2=>by
      rcases Nat.lt_or_eq_of_le (Nat.le_of_lt_succ hj) with h|rfl
      ·have:=(h4 j h hj2).1
       exact⟨by omega,fun _=>by omega⟩
      ·exact⟨Int.le_refl _,fun h=>by omega⟩⟩
    ·rw[if_neg (by simpa using hl)]
     exact .inr ⟨i,rfl,by omega,h3,fun j hj hj2=>by
      rcases Nat.lt_or_eq_of_le (Nat.le_of_lt_succ hj) with h|rfl
      ·exact h4 j h hj2
      ·exact⟨by omega,fun h=>by omega⟩⟩

theorem FbX.uniq{T:Type}[Inhabited T]{ok:T→Bool}{ln:T→Int}{l:List T}{n:Nat}{r s:Int}(h:FbX ok ln l n r)(h':FbX ok ln l n s):r=s:=by
 rcases h with⟨rfl,h⟩| ⟨i,rfl,hi,h1,h2⟩<;>rcases h' with⟨rfl,g⟩| ⟨k,rfl,hk,g1,g2⟩
 ·rfl
 ·rw[h k hk] at g1;cases g1
 ·rw[g i hi] at h1;cases h1
 ·have a1:=h2 k hk g1
  have a2:=g2 i hi h1
  rcases Nat.lt_trichotomy i k with h|h|h
  ·have:=a2.2 h;omega
  ·rw[h]
  ·have:=a1.2 h;omega

def okR(c d:BitVec 64)(x:Ro):Bool:=mtP x.p c d&&(decide (0≤x.p.len)&&decide (x.p.len≤128))

def lnR(x:Ro):Int:=x.p.len

def bxR(l:List Ro)(c d:BitVec 64):Int:=fbX (okR c d) lnR l l.length

def bsR(l:List Ro)(c d:BitVec 64):Option Ro:=if bxR l c d<0 then none else some (at' l (bxR l c d).toNat)

def tlR(l:List Ro)(c d:BitVec 64):Int:=match bsR l c d with|none=>0|some x=>x.act

def jh(l:List Ro)(p:Pf):Option Ro:=bsR (l.filter fun x=>decide (x.p.len<p.len)) p.a p.b

def fdR(l:List Ro)(p:Pf):Option Ro:=l.find? fun x=>decide (x.p=p)

theorem OZ{l:List Ro}{c d:BitVec 64}{i:Nat}(hi:i<l.length)(h1:okR c d (at' l i)=true)(h2:∀j,j<l.length→okR c d (at' l j)=true→lnR (at' l j)≤lnR (at' l i)∧(j<i→lnR (at' l j)<lnR (at' l i))):bsR l c d=some (at' l i):=by
 have:bxR l c d=i:=(nk _ _ _ _).uniq (.inr ⟨i,rfl,hi,h1,h2⟩)
 unfold bsR
 rw[this,if_neg (by omega)];rfl

theorem Cp{l:List Ro}{c d:BitVec 64}(h:∀j,j<l.length→okR c d (at' l j)=false):bsR l c d=none:=by
 have:bxR l c d= -1:=(nk _ _ _ _).uniq (.inl ⟨rfl,h⟩)
 unfold bsR
 rw[this,if_pos (by omega)]

theorem Hw(l:List Ro)(c d:BitVec 64):(bsR l c d=none∧∀x∈l,okR c d x=false)∨∃x,x∈l∧bsR l c d=some x∧okR c d x=true∧∀y∈l,okR c d y=true→y.p.len≤x.p.len:=by
 rcases nk (okR c d) lnR l l.length with⟨h1,h2⟩| ⟨i,h1,hi,h2,h3⟩
 ·exact .inl ⟨Cp h2,fun x hx=>by obtain⟨j,hj,rfl⟩:=fi hx;exact h2 j hj⟩
 ·exact .inr ⟨at' l i,fb hi,OZ hi h2 h3,h2,fun y hy hm=>by obtain⟨j,hj,rfl⟩:=fi hy;exact (h3 j hj hm).1⟩

theorem xU{w:Int}{l:List Ro}(h:TB w l){x:Ro}(hx:x∈l)(c d:BitVec 64):okR c d x=mtP x.p c d:=by
 obtain⟨h1,h2,h3,_⟩:=jd.1 (h.rip hx)
 unfold okR
 rw[show decide (0≤x.p.len)=true from by simpa using h2,show decide (x.p.len≤128)=true from by simp;omega]
 simp

theorem uF{w:Int}{l:List Ro}(h:TB w l)(c d:BitVec 64):(bsR l c d=none∧∀x∈l,mtP x.p c d=false)∨∃x,x∈l∧bsR l c d=some x∧mtP x.p c d=true∧∀y∈l,mtP y.p c d=true→y.p.len≤x.p.len:=by
 rcases Hw l c d with⟨h1,h2⟩| ⟨x,hx,h1,h2,h3⟩
 ·exact .inl ⟨h1,fun x hx=>by rw[←xU h hx];exact h2 x hx⟩
 ·exact .inr ⟨x,hx,h1,by rw[←xU h hx];exact h2,fun y hy hm=>h3 y hy (by rw[xU h hy];exact hm)⟩

theorem rV{w:Int}{l:List Ro}(h:TB w l){c d:BitVec 64}{x:Ro}(hx:x∈l)(hm:mtP x.p c d=true)(hl:∀y∈l,mtP y.p c d=true→y.p.len≤x.p.len):bsR l c d=some x:=by
 rcases uF h c d with⟨_,h2⟩| ⟨y,hy,h1,h2,h3⟩
 ·rw[h2 x hx] at hm;cases hm
 ·rw[h1,Option.some_inj]
  exact h.one hy hx (qn (h.rip hy) (h.rip hx) (Int.le_antisymm (hl y hy h2) (h3 x hx hm)) h2 hm)

theorem oB{w:Int}{l:List Ro}(h:TB w l)(n:Int):TB w (l.filter fun x=>decide (x.p.len<n)):=h.sub List.filter_sublist

theorem qJ(l:List Ro)(p:Pf):(fdR l p=none∧∀x∈l,x.p≠p)∨∃x,x∈l∧x.p=p∧fdR l p=some x:=by
 unfold fdR
 cases h:l.find? fun x=>decide (x.p=p) with
 |none=>exact .inl ⟨rfl,fun x hx=>by have:=List.find?_eq_none.1 h x hx;simpa using this⟩
 |some x=>exact .inr ⟨x,List.mem_of_find?_eq_some h,by have:=List.find?_some h;simpa using this,rfl⟩

theorem OG{w:Int}{l:List Ro}(h:TB w l){x:Ro}(hx:x∈l):fdR l x.p=some x:=by
 rcases qJ l x.p with⟨_,h2⟩| ⟨y,hy,he,h1⟩
 ·exact absurd rfl (h2 x hx)
 ·rw[h1,h.one hy hx he]

def chF:Nat→List Ro→Int
 |0,_=>0
 |n+1,l=>l.foldl (fun m x=>if 1+chF n (unR l x.p)>m then 1+chF n (unR l x.p) else m) 0

def chR(l:List Ro):Int:=chF l.length l

theorem HQ{l:List Ro}{x:Ro}(hx:x∈l):(unR l x.p).length<l.length:=by
 unfold unR
 exact List.length_filter_lt_length_iff_exists.2 ⟨x,hx,by simp⟩

theorem Dp(f:Ro→Int):∀(l:List Ro) (m:Int),m≤l.foldl (fun m x=>if f x>m then f x else m) m∧∀x∈l,f x≤l.foldl (fun m x=>if f x>m then f x else m) m
 | [],m=>⟨Int.le_refl _,fun x hx=>by cases hx⟩
 |y::l,m=>by
  rw[List.foldl_cons]
  obtain⟨h1,h2⟩:=Dp f l (if f y>m then f y else m)
  have h3:m≤(if f y>m then f y else m)∧f y≤(if f y>m then f y else m):=by split<;>omega
  refine⟨Int.le_trans h3.1 h1,fun x hx=> ?_⟩
  rcases List.mem_cons.1 hx with rfl|hx
  ·exact Int.le_trans h3.2 h1
  ·exact h2 x hx

theorem Do(f:Ro→Int):∀(l:List Ro) (m:Int),l.foldl (fun m x=>if f x>m then f x else m) m=m∨∃x∈l,l.foldl (fun m x=>if f x>m then f x else m) m=f x
 | [],m=> .inl rfl
 |y::l,m=>by
  rw[List.foldl_cons]
  rcases Do f l (if f y>m then f y else m) with h| ⟨x,hx,h⟩
  ·rw[h]
   split
   ·exact .inr ⟨y,by simp,rfl⟩
   ·exact .inl rfl
  ·exact .inr ⟨x,by simp[hx],h⟩

def og(s:List Ro):Prop:=s.Pairwise fun x y=>y.p≠x.p∧cvP x.p y.p=true

theorem Ce:∀(n:Nat) (l s:List Ro),l.length≤n→og s→(∀x∈s,x∈l)→(s.length:Int)≤chF n l
 |0,l,s,h,_,hs=>by
  have:l=[]:=List.eq_nil_of_length_eq_zero (by omega)
  subst this
  cases s with
  |nil=>exact Int.le_refl _
  |cons x s=>have:=hs x (by simp);cases this
 |n+1,l,s,h,hc,hs=>by
  unfold chF
  obtain⟨h1,h2⟩:=Dp (fun x=>1+chF n (unR l x.p)) l 0
  cases s with
  |nil=>exact h1
  |cons x s=>
   obtain⟨g1,g2⟩:=List.pairwise_cons.1 hc
   have hx:=hs x (by simp)
   have hlt:=HQ hx
   have:=Ce n (unR l x.p) s (by omega) g2 fun y hy=>xZ.2 ⟨hs y (by simp[hy]),(g1 y hy).1,(g1 y hy).2⟩
   have h3:=h2 x hx
   rw[List.length_cons]
   omega

theorem wJ:∀(n:Nat) (l:List Ro),l.length≤n→∃s,og s∧(∀x∈s,x∈l)∧(s.length:Int)=chF n l
 |0,l,_=>⟨[], .nil,(fun x hx=>by cases hx),rfl⟩
 |n+1,l,h=>by
  unfold chF
  rcases Do (fun x=>1+chF n (unR l x.p)) l 0 with e| ⟨x,hx,e⟩
  ·exact⟨[], .nil,(fun x hx=>by cases hx),by rw[e];rfl⟩
  ·have hlt:=HQ hx
   obtain⟨s,h1,h2,h3⟩:=wJ n (unR l x.p) (by omega)
   refine⟨x::s,List.pairwise_cons.2 ⟨fun y hy=> ?_,h1⟩,fun y hy=> ?_, ?_⟩
   ·obtain⟨_,a,b⟩:=xZ.1 (h2 y hy)
    exact⟨a,b⟩
   ·rcases List.mem_cons.1 hy with rfl|hy
    ·exact hx
    ·exact (xZ.1 (h2 y hy)).1
   ·rw[e,List.length_cons];omega

theorem oc{l s:List Ro}(hc:og s)(hs:∀x∈s,x∈l):(s.length:Int)≤chR l:=Ce _ l s (Nat.le_refl _) hc hs
theorem l6(l:List Ro):∃s,og s∧(∀x∈s,x∈l)∧(s.length:Int)=chR l:=wJ _ l (Nat.le_refl _)

theorem Ml(l:List Ro)(r:Ro):chR l≤chR (ptR l r)∧chR (ptR l r)≤chR l+1:=by
 constructor
 ·obtain⟨s,h1,h2,h3⟩:=l6 l
  have hc:og (s.map fun x=>if x.p=r.p then r else x):=by
   unfold og
   rw[List.pairwise_map]
   refine h1.imp fun {x y} h=> ?_
   have e:∀z:Ro,(if z.p=r.p then r else z).p=z.p:=fun z=>by split<;>simp_all
   rw[e,e]
   exact h
  have:=oc (l:=ptR l r) hc fun x hx=>by
   obtain⟨y,hy,rfl⟩:=List.mem_map.1 hx
   rw[iH]
   split
   ·exact .inl rfl
   ·rename_i hne;exact .inr ⟨h2 y hy,hne⟩
  rw[List.length_map] at this
  omega
 ·obtain⟨s,h1,h2,h3⟩:=l6 (ptR l r)
  have hc:og (s.filter fun x=> !decide (x.p=r.p)):=h1.filter _
  have hu:=oc (l:=l) hc fun x hx=>by
   rw[List.mem_filter] at hx
   have hne:x.p≠r.p:=by simpa using hx.2
   rcases iH.1 (h2 x hx.1) with rfl| ⟨h,_⟩
   ·exact absurd rfl hne
   ·exact h
  have hcount:s.length≤(s.filter fun x=> !decide (x.p=r.p)).length+1:=by
   have key:∀s:List Ro,og s→s.length≤(s.filter fun x=> !decide (x.p=r.p)).length+1:=by
    intro s
    induction s with
    |nil=>intro _;simp
    |cons y s ih=>
     intro hc
     obtain⟨g1,g2⟩:=List.pairwise_cons.1 hc
     by_cases he:y.p=r.p
     ·rw[List.filter_cons_of_neg (by simpa using he)]
      have:s.filter (fun x=> !decide (x.p=r.p))=s:=List.filter_eq_self.2 fun z hz=>by
       have:=(g1 z hz).1
       rw[he] at this
       simpa using this
      rw[this];simp
     ·rw[List.filter_cons_of_pos (by simpa using he),List.length_cons,List.length_cons]
      have:=ih g2
      omega
   exact key s h1
  omega

end Go.Sx.M
end

section
namespace Go.Proofs.YtcabofadpheomaaGreat.L1
open Go.Sx Go.Sx.M

def pfE(p:Pf):AV:= .agg [.w64 p.a, .w64 p.b, .int .i64 p.len]
def roE(x:Ro):AV:= .agg [.w64 x.p.a, .w64 x.p.b, .int .i64 x.p.len, .int .i64 x.act]

def RK(x:AV):Ro:=⟨⟨cW (x.cells.getD 0 .any),cW (x.cells.getD 1 .any),cI (x.cells.getD 2 .any)⟩,cI (x.cells.getD 3 .any)⟩

def deR(l:List AV):List Ro:=l.map RK

theorem iL(l:List Ro):deR (l.map roE)=l:=by
 unfold deR
 rw[List.map_map]
 exact List.map_id l

def pRo:Par:=some (66,4)
def vT:Par:=some (123,4)

theorem il(x:Ro):e7 Tryz.prog 66 (roE x).cells 0=some (roE x):=by kernel_rfl
theorem Ia(x:Ro):e7 Tryz.prog 123 (roE x).cells 0=some (roE x):=by kernel_rfl
theorem ro_p(x:Ro):e7 Tryz.prog 64 (roE x).cells 0=some (pfE x.p):=by kernel_rfl
theorem PC(x:Ro):e7 Tryz.prog 121 (roE x).cells 0=some (pfE x.p):=by kernel_rfl
theorem QR(x:Ro):e7 Tryz.prog 3 (roE x).cells 2=some (.int .i64 x.p.len):=by kernel_rfl
theorem NN(x:Ro):e7 Tryz.prog 3 (roE x).cells 3=some (.int .i64 x.act):=by kernel_rfl

def roO(o:Option Ro):Ro:=o.getD ⟨⟨0#64,0#64,0⟩,0⟩

theorem zr(cs:List Value)(h:f8 [.int .u64, .int .u64, .int .i64, .int .i64] cs):∃x:Ro,(roE x).cells.length=4∧(roE x).sound=true∧AVRs [] (roE x).cells cs:=by
 obtain⟨x0,l0,rfl,f0,g0⟩:=f9 h
 obtain⟨x1,l1,rfl,f1,g1⟩:=f9 g0
 obtain⟨x2,l2,rfl,f2,g2⟩:=f9 g1
 obtain⟨x3,l3,rfl,f3,g3⟩:=f9 g2
 obtain rfl:=pQ g3
 obtain⟨v,rfl⟩:=iY f0
 obtain⟨w,rfl⟩:=iY f1
 obtain⟨k,rfl,_⟩:=f2
 obtain⟨j,rfl,_⟩:=f3
 exact⟨⟨⟨v,w,k⟩,j⟩,rfl,rfl, .cons (.w64 _) (.cons (.w64 _) (.cons (.int _ _) (.cons (.int _ _) .nil)))⟩

end Go.Proofs.YtcabofadpheomaaGreat.L1
end

section
namespace Go.Proofs.YtcabofadpheomaaGreat.L1
open Go.Sx Go.Sx.M

theorem rD{w:Int}{l:List Ro}:tbR w l=true↔(w=32∨w=128)∧l.length≤256∧(∀i,i<l.length→riR w (at' l i)=true)∧∀i,i<l.length→0<i→cpP (at' l (i-1)).p (at' l i).p<0:=by
 unfold tbR;rw[decide_eq_true_eq]

def Gq(l:List Ro)(w:Int)(p:Nat):St:=⟨[.int .i64 w, .vsl 0 0 (l.map roE).length, .any, .any, .any, .int .i64 p, .any, .any, .any, .any, .any, .any, .any, .any, .any, .any, .any, .any, .any, .any, .any, .any, .any, .any, .any, .any, .any, .any, .any, .any, .any, .any, .any, .any, .any, .any, .any, .any, .any, .any, .any, .any, .any, .any, .any, .any, .any, .any, .any],[some ⟨false,123,4,true,l.map roE⟩]⟩
def QP:Modes:=⟨[1,1,0,0,0,2,0,0,0,0,0,0,0,0,0,0,0,0,0,0,0,0,0,0,0,0,0,0,0,0,0,0,0,0,0,0,0,0,0,0,0,0,0,0,0,0,0,0,0],[],[],[],[]⟩
def rtM:Modes:=⟨[1,1,0,0,0,1,0,0,0,0,0,0,0,0,0,0,0,0,0,0,0,0,0,0,0,0,0,0,0,0,0,0,0,0,0,0,0,0,0,0,0,0,0,0,0,0,0,0,0],[],[],[],[]⟩
def QQ:Modes:=⟨[1,1,0,0,2,0,0,0,0,0,0,0,0,0,0,0,0,0,0,0,0,0,0,0,0,0,0,0,0,0,0,0,0,0,0,0,0,0,0,0,0,0,0,0,0,0,0,0,0],[],[],[],[]⟩
def rtI(l:List Ro)(w:Int)(p:Nat):Prop:=p≤l.length∧∀i,i<p→riR w (at' l i)=true∧(0<i→cpP (at' l (i-1)).p (at' l i).p<0)
def rtH(l:List Ro)(w:Int):List Hint:=[.linv _ 0 (Gq l w) (rtI l w) (fun p=>l.length+1-p) QP rtM QQ (fun _=>[.fork [] [.fork [] []]]) fun p=>
 [.fork [.dy, .cell (roE (at' l p)), .fork [] [.fork [.nw, .dy, .cell (pfE (at' l (p-1)).p), .dy, .cell (pfE (at' l p).p), .fork [] [.nw]] [.nw]]] []]]

def Gt:List Arg→(Res→Prop)→Prop
 | [.v (.int .i64 w), .v (.agg [.w64 a, .w64 b, .int .i64 k, .int .i64 j])],R=>R (.v (.bool (riR w ⟨⟨a,b,k⟩,j⟩)))
 |_,_=>False

noncomputable def Ab:List (FuncId×Sx.Spec):=[(94,ey [none,none] qm)]

theorem K8(w:Int)(a b:BitVec 64)(k j:Int)(r:AV):run Ab Tryz.prog 55 [.int .i64 w, .agg [.w64 a, .w64 b, .int .i64 k, .int .i64 j]] [] [.fork [.fork [] []] []] (eM (.v r))=
  ((gh w a b k=true→(Decidable.decide (j≥(1:Int))=true→AV.bool (Decidable.decide (j≤(255:Int)))=r)∧(Decidable.decide (j≥(1:Int))=false→AV.bool false=r))∧(gh w a b k=false→AV.bool false=r)):=by kernel_rfl

theorem H9:∀e∈Ab,eJ Tryz.prog e.1 e.2:=by
 intro e he
 simp only[Ab,List.mem_cons,List.not_mem_nil,or_false] at he
 rcases he with rfl
 ·exact Gu

theorem NM:eJ Tryz.prog 55 (ey [none,none] Gt):=by
 refine eK (eS (l:=Ab) H9 mixed noNG) fun l R hF=> ?_
 unfold Gt at hF
 split at hF
 ·rename_i w a b k j
  refine⟨_,hF,rfl,[.fork [.fork [] []] []], ?_⟩
  show run Ab Tryz.prog _ [.int .i64 w, .agg [.w64 a, .w64 b, .int .i64 k, .int .i64 j]] [] _ _
  rw[K8]
  refine⟨fun h=>⟨fun h1=> ?_,fun h1=> ?_⟩,fun h=> ?_⟩
  ·rw[show riR w ⟨⟨a,b,k⟩,j⟩=(gh w a b k&&(decide (j≥1)&&decide (j≤255))) from rfl,h,h1];rfl
  ·rw[show riR w ⟨⟨a,b,k⟩,j⟩=(gh w a b k&&(decide (j≥1)&&decide (j≤255))) from rfl,h,h1];rfl
  ·rw[show riR w ⟨⟨a,b,k⟩,j⟩=(gh w a b k&&(decide (j≥1)&&decide (j≤255))) from rfl,h];rfl
 ·exact hF.elim

def sE:List Arg→(Res→Prop)→Prop
 | [.v (.int .i64 w), .row r_l],R=>r_l=(deR r_l).map roE∧(deR r_l).length≤9223372036854775807∧R (.v (.bool (tbR w (deR r_l))))
 |_,_=>False

noncomputable def kQ:List (FuncId×Sx.Spec):=[(55,ey [none,none] Gt),
 (56,ey [none,none] wA)]

theorem Aa(w:Int)(l:List Ro)(r:AV):run kQ Tryz.prog 28 [.int .i64 w, .vsl 0 0 (l.map roE).length] [some ⟨false,(vT.getD (0,0)).1,(vT.getD (0,0)).2,true,(l.map roE)⟩] (rtH l w) (eM (.v r))=
  (let A:=AV.bool false=r;let z:=(1:Nat);let y:=List.length l;let x:=inRange IntKind.i64;let t:=(1:Int);let s:=(0:Int);let n:=(0:Nat);let m:=AV.int IntKind.i64;let h:=List.length (List.map roE l);let u:=(↑h:Int);let k:=Decidable.decide (u≤(256:Int));let g:=Blk.mk false (123:TypeId) (4:Nat) true (List.map roE l);let e:=AV.any;((St.mk [m w,AV.vsl n n h,e,e,e,m s,e,e,e,e,e,e,e,e,e,e,e,e,e,e,e,e,e,e,e,e,e,e,e,e,e,e,e,e,e,e,e,e,e,e,e,e,e,e,e,e,e,e,e] [some g]=Gq l w n∧rtI l w n)∧∀(a:Nat),let j:=(↑a:Int);let C:=Decidable.decide (j>s);let B:=Decidable.decide (j<u);let i:=Ro.p (at' l (a-z));let f:=Ro.p (at' l a);let q:= !riR w (Ro.mk (Pf.mk f.1 f.2 f.3) (at' l a).2);let o:=Decidable.decide (rB i.1 i.2 i.3 f.1 f.2 f.3≥s);let d:=St.mk [m w,AV.vsl n n h,e,e,e,m (j+t),e,e,e,e,e,e,e,e,e,e,e,e,e,e,e,e,e,e,e,e,e,e,e,e,e,e,e,e,e,e,e,e,e,e,e,e,e,e,e,e,e,e,e] [some g];rtI l w a→(B=true→(s≤j∧j<u)∧Blk.read Proofs.Tryz.prog g (123:Nat) (n+Int.toNat j) n=some (AV.agg [AV.w64 f.1,AV.w64 f.2,m f.3,m (at' l a).2])∧(q=true→A)∧(q=false→(C=true→x (j-t)∧(s≤j-t∧j-t<u)∧Blk.read Proofs.Tryz.prog g (121:Nat) (n+Int.toNat (j-t)) (n+n)=some (AV.agg [AV.w64 i.1,AV.w64 i.2,m i.3])∧(s≤j∧j<u)∧Blk.read Proofs.Tryz.prog g (121:Nat) (n+Int.toNat j) (n+n)=some (AV.agg [AV.w64 f.1,AV.w64 f.2,m f.3])∧(o=true→A)∧(o=false→x (j+t)∧∃(b:Nat),d=Gq l w b∧rtI l w b∧y+z-b<y+z-a))∧(C=false→x (j+t)∧∃(c:Nat),d=Gq l w c∧rtI l w c∧y+z-c<y+z-a)))∧(B=false→((w==(32:Int))=true→AV.bool (k)=r)∧((w==(32:Int))=false→((w==(128:Int))=true→AV.bool (k)=r)∧((w==(128:Int))=false→A))))):=by kernel_rfl

theorem xC:∀e∈kQ,eJ Tryz.prog e.1 e.2:=by
 intro e he
 simp only[kQ,List.mem_cons,List.not_mem_nil,or_false] at he
 rcases he with rfl|rfl
 ·exact NM
 ·exact Lb

theorem C4:eJ Tryz.prog 28 (ey [none,vT] sE):=by
 refine eK (eS (l:=kQ) xC mixed noNG) fun l R hF=> ?_
 unfold sE at hF
 split at hF
 ·rename_i w r_l
  obtain⟨hr_l,hl,hF⟩:=hF
  generalize deR r_l=l at hr_l hl hF
  subst hr_l
  refine⟨_,hF,rfl,(rtH l w), ?_⟩
  show run kQ Tryz.prog _ [.int .i64 w, .vsl 0 0 (l.map roE).length] [some ⟨false,(vT.getD (0,0)).1,(vT.getD (0,0)).2,true,(l.map roE)⟩] _ _
  rw[Aa];(conv=>zeta)
  refine⟨⟨rfl,Nat.zero_le _,fun i hi=>by omega⟩, ?_⟩
  rintro p ⟨h1,h2⟩
  refine⟨fun hlt=> ?_,fun hge=> ?_⟩
  ·have hp:p<l.length:=by simp only[decide_eq_true_eq,List.length_map] at hlt;omega
   have B:0≤(p:Int)∧(p:Int)< ((l.map roE).length:Int):=by rw[List.length_map];omega
   have nx:riR w (at' l p)=true→(0<p→cpP (at' l (p-1)).p (at' l p).p<0)→inRange .i64 ((p:Int)+1)∧∃p',Gq l w (p+1)=Gq l w p'∧rtI l w p'∧l.length+1-p'<l.length+1-p:=fun g1 g2=>⟨inR (by omega) (by omega),p+1,rfl,⟨by omega,up h2 ⟨g1,g2⟩⟩,by omega⟩
   refine⟨B,eL B.1 B.2 (Ia _),fun hr=> ?_,fun hr=>⟨fun h0=> ?_,fun h0=>nx (by simpa using hr) fun h=> ?_⟩⟩
   ·have hr:riR w (at' l p)=false:=by simpa using hr
    rw[Lu rD fun h=>by have:=h.2.2.1 p hp;rw[hr] at this;cases this]
   ·have h0:0<p:=by simp only[decide_eq_true_eq] at h0;omega
    have e1:((p:Int)-1).toNat=p-1:=by omega
    refine⟨inR (by omega) (by omega),⟨by omega,by omega⟩,eL (by omega) (by omega) (by rw[e1];exact PC _),B,eL B.1 B.2 (PC _),fun hc=> ?_,fun hc=>nx (by simpa using hr) fun _=> ?_⟩
    ·have hc:cpP (at' l (p-1)).p (at' l p).p≥0:=of_decide_eq_true hc
     rw[Lu rD fun h=>by have:=h.2.2.2 p hp h0;omega]
    ·have hc:¬cpP (at' l (p-1)).p (at' l p).p≥0:=of_decide_eq_false hc
     omega
   ·simp only[decide_eq_false_iff_not] at h0;omega
  ·have hp:p=l.length:=by simp only[decide_eq_false_iff_not,List.length_map] at hge;omega
   subst hp
   have tb:(w=32∨w=128)→tbR w l=decide (((l.map roE).length:Int)≤256):=fun hw=>by
    rw[Bool.eq_iff_iff,rD,decide_eq_true_eq,List.length_map]
    exact⟨fun h=>by have:=h.2.1;omega,fun h=>⟨hw,by omega,fun i hi=>(h2 i hi).1,fun i hi=>(h2 i hi).2⟩⟩
   refine⟨fun hw=> ?_,fun hw=>⟨fun hw2=> ?_,fun hw2=> ?_⟩⟩
   ·rw[tb (.inl (by simpa using hw))]
   ·rw[tb (.inr (by simpa using hw2))]
   ·have a1:w≠32:=by simpa using hw
    have a2:w≠128:=by simpa using hw2
    rw[Lu rD fun h=>by rcases h.1 with h|h<;>contradiction]
 ·exact hF.elim

end Go.Proofs.YtcabofadpheomaaGreat.L1
end

section
namespace Go.Proofs.YtcabofadpheomaaGreat.L1
open Go.Sx Go.Sx.M

theorem tg{l:List Ro}{n:Nat}{x:Ro}(hx:x∈l.take n):∃i,i<n∧i<l.length∧at' l i=x:=by
 obtain⟨i,hi,rfl⟩:=fi hx
 rw[List.length_take] at hi
 refine⟨i,by omega,by omega, ?_⟩
 unfold at'
 rw[List.getD_eq_getElem?_getD,List.getD_eq_getElem?_getD,List.getElem?_take,if_pos (by omega)]

end Go.Proofs.YtcabofadpheomaaGreat.L1
end

section
namespace Go.Proofs.YtcabofadpheomaaGreat.L1
open Go.Sx Go.Sx.M

def chnF(N:Nat):List Arg→(Res→Prop)→Prop
 | [.row r_l],R=>r_l=(deR r_l).map roE∧(deR r_l).length≤1000000∧(deR r_l).length<N∧R (.v (.int .i64 (chR (deR r_l))))
 |_,_=>False

def IM(F:List Ro→List AV)(l:List Ro)(p:Nat):St:=
 ⟨[.any, .any, .any, .vsl 1 0 p, .any, .any, .vsl 0 0 (l.map roE).length, .int .i64 (l.map roE).length, .int .i64 p, .any, .any, .any, .any, .any, .any, .any, .any, .any, .any],[some ⟨false,66,4,true,l.map roE⟩,some ⟨true,123,4,true,F (l.take p)⟩]⟩
def PR:Modes:=⟨[0,0,0,1,0,0,1,1,2,0,0,0,0,0,0,0,0,0,0],[],[],[],[(3,123,4)]⟩
def PS:Modes:=⟨[0,0,0,1,0,0,1,1,1,0,0,0,0,0,0,0,0,0,0],[],[],[],[]⟩
def PT(F:List Ro→List AV)(l:List Ro):List Hint:=[.linv _ 0 (IM F l) (fun p=>p≤l.length) (fun p=>l.length+1-p) PR PS PS (fun _=>[]) fun p=>
 [.fork [.dy, .cell (roE (at' l p)), .rows (F (l.take (p+1))), .nw] []]]

theorem Ko:∀(n:Nat) (l:List Ro),0≤chF n l∧chF n l≤(n:Int)
 |0,_=>⟨Int.le_refl _,Int.le_refl _⟩
 |n+1,l=>by
  unfold chF
  refine⟨(Dp (fun x=>1+chF n (unR l x.p)) l 0).1, ?_⟩
  rcases Do (fun x=>1+chF n (unR l x.p)) l 0 with e| ⟨x,_,e⟩
  ·rw[e];omega
  ·rw[e]
   have:=(Ko n (unR l x.p)).2
   omega

theorem OX(l:List Ro):0≤chR l∧chR l≤(l.length:Int):=Ko _ l

def N8:List Arg→(Res→Prop)→Prop
 | [.row r_l],R=>r_l=(deR r_l).map roE∧(deR r_l).length≤1000000∧R (.vrow 123 4 ((deR r_l).map roE))
 |_,_=>False

theorem Lq(l:List Ro)(F:List Ro→List AV)(es:List AV):run [] Tryz.prog 29 [.vsl 0 0 (l.map roE).length] [some ⟨false,(pRo.getD (0,0)).1,(pRo.getD (0,0)).2,true,(l.map roE)⟩] (PT F l) (eM (.vrow 123 4 es))=
  (let m:=List.length l;let j:=(1:Nat);let i:=Blk.mk true (123:TypeId) (4:Nat) true;let h:=AV.int IntKind.i64;let g:=(0:Nat);let f:=AV.any;let e:=List.length (List.map roE l);let o:=(↑e:Int);let d:=Blk.mk false (66:TypeId) (4:Nat) true (List.map roE l);((St.mk [f,f,f,AV.vsl (List.length [some d]) g g,f,f,AV.vsl g g e,h o,h (0:Int),f,f,f,f,f,f,f,f,f,f] ([some d]++[some (i [])])=IM F l g∧Nat.le g (m))∧∀(a:Nat),let s:=F (List.take (a+j) l);let q:=Ro.p (at' l a);let n:=F (List.take a l);let k:=(↑a:Int);let r:=Decidable.decide (k<o);let c:=AV.agg [AV.w64 q.1,AV.w64 q.2,h q.3,h (at' l a).2];Nat.le a (m)→(r=true→((0:Int)≤k∧k<o)∧Blk.read Proofs.Tryz.prog d (66:Nat) (g+Int.toNat k) g=some (c)∧((a+j)*(32:Nat)≤(140737488355328:Nat)∧a+j≤(9223372036854775807:Nat)∧g+j≤List.length [c]∧a≤List.length n)∧List.take a n++[c]=s∧inRange IntKind.i64 (k+(1:Int))∧∃(b:Nat),St.mk [f,f,f,AV.vsl (g+j) g (a+j),f,f,AV.vsl g g e,h o,h (k+(1:Int)),f,f,f,f,f,f,f,f,f,f] [some d,some (Blk.mk true (123:Nat) (4:Nat) true (s))]=IM F l b∧Nat.le b (m)∧m+j-b<m+j-a)∧(r=false→a=List.length es∧some (i n)=some (i es)))):=by kernel_rfl

theorem N7:eJ Tryz.prog 29 (ey [pRo] N8):=by
 refine eK fq fun l R hF=> ?_
 unfold N8 at hF
 split at hF
 ·rename_i r_l
  obtain⟨hr_l,hl,hF⟩:=hF
  generalize deR r_l=l at hr_l hl hF
  subst hr_l
  refine⟨_,hF,trivial,(PT (List.map roE) l), ?_⟩
  show run [] Tryz.prog _ [.vsl 0 0 (l.map roE).length] [some ⟨false,(pRo.getD (0,0)).1,(pRo.getD (0,0)).2,true,(l.map roE)⟩] _ _
  rw[Lq];(conv=>zeta)
  have lt:∀p,p≤l.length→((l.take p).map roE).length=p:=fun p hp=>by rw[List.length_map,List.length_take];omega
  refine⟨⟨rfl,Nat.zero_le _⟩, ?_⟩
  intro p hp
  have hp:p≤l.length:=hp
  refine⟨fun hlt=> ?_,fun hge=> ?_⟩
  ·have hlt:p<l.length:=by simp only[decide_eq_true_eq,List.length_map] at hlt;omega
   have B:0≤(p:Int)∧(p:Int)< ((l.map roE).length:Int):=by rw[List.length_map];omega
   refine⟨B,eL B.1 B.2 (il _),⟨by omega,by omega,by simp,by rw[lt p hp];omega⟩, ?_,inR (by omega) (by omega),p+1,rfl,(by omega:p+1≤l.length),by omega⟩
   rw[List.take_of_length_le (by rw[lt p hp];omega),List.take_add_one,eZ hlt,List.map_append]
   rfl
  ·have hp:p=l.length:=by simp only[decide_eq_false_iff_not,List.length_map] at hge;omega
   subst hp
   rw[List.take_length,List.length_map]
   exact⟨rfl,rfl⟩
 ·exact hF.elim

end Go.Proofs.YtcabofadpheomaaGreat.L1
end

section
namespace Go.Proofs.YtcabofadpheomaaGreat.L1
open Go.Sx Go.Sx.M

def Qy:List Arg→(Res→Prop)→Prop
 | [.v (.int .i64 w), .row r_l],R=>r_l=(deR r_l).map roE∧(deR r_l).length≤1000000∧R (.v (.bool (tbR w (deR r_l))))
 |_,_=>False

def D0:List Arg→(Res→Prop)→Prop
 | [.row r_l, .v (.agg [.w64 a, .w64 b, .int .i64 k])],R=>r_l=(deR r_l).map roE∧tbR 128 (deR r_l)=true∧R (.v (.tuple [.agg [.w64 (roO (fdR (deR r_l) ⟨a,b,k⟩)).p.a, .w64 (roO (fdR (deR r_l) ⟨a,b,k⟩)).p.b, .int .i64 (roO (fdR (deR r_l) ⟨a,b,k⟩)).p.len, .int .i64 (roO (fdR (deR r_l) ⟨a,b,k⟩)).act], .bool (fdR (deR r_l) ⟨a,b,k⟩).isSome]))
 |_,_=>False

def D9:List Arg→(Res→Prop)→Prop
 | [.row r_l, .v (.agg [.w64 c, .w64 d])],R=>r_l=(deR r_l).map roE∧tbR 128 (deR r_l)=true∧R (.v (.tuple [.agg [.w64 (roO (bsR (deR r_l) c d)).p.a, .w64 (roO (bsR (deR r_l) c d)).p.b, .int .i64 (roO (bsR (deR r_l) c d)).p.len, .int .i64 (roO (bsR (deR r_l) c d)).act], .bool (bsR (deR r_l) c d).isSome]))
 |_,_=>False

def yn:List Arg→(Res→Prop)→Prop
 | [.row r_l, .v (.agg [.w64 c, .w64 d])],R=>r_l=(deR r_l).map roE∧tbR 128 (deR r_l)=true∧R (.v (.int .i64 (tlR (deR r_l) c d)))
 |_,_=>False

def D4:List Arg→(Res→Prop)→Prop
 | [.row r_l, .v (.agg [.w64 a, .w64 b, .int .i64 k])],R=>r_l=(deR r_l).map roE∧tbR 128 (deR r_l)=true∧R (.vrow 66 4 ((drR (deR r_l) ⟨a,b,k⟩).map roE))
 |_,_=>False

def JB:List Arg→(Res→Prop)→Prop
 | [.row r_l, .v (.agg [.w64 a, .w64 b, .int .i64 k, .int .i64 j])],R=>r_l=(deR r_l).map roE∧tbR 128 (deR r_l)=true∧riR 128 ⟨⟨a,b,k⟩,j⟩=true∧R (.vrow 66 4 ((ptR (deR r_l) ⟨⟨a,b,k⟩,j⟩).map roE))
 |_,_=>False

def yF:List Arg→(Res→Prop)→Prop
 | [.row r_l],R=>r_l=(deR r_l).map roE∧tbR 128 (deR r_l)=true∧R (.v (.int .i64 (chR (deR r_l))))
 |_,_=>False

end Go.Proofs.YtcabofadpheomaaGreat.L1
end

section
namespace Go.Sx.M
open Go.Proofs.YtcabofadpheomaaGreat.L1

theorem TB.at{w:Int}{l:List Ro}(h:TB w l){i j:Nat}(hij:i<j)(hj:j<l.length):cpP (at' l i).p (at' l j).p<0:=by
 have hi:i<l.length:=by omega
 have:=List.pairwise_iff_getElem.1 h.sorted i j hi hj hij
 have e1:l[i]=at' l i:=by have:=eZ hi;rw[List.getElem?_eq_getElem hi] at this;exact Option.some_inj.1 this
 have e2:l[j]=at' l j:=by have:=eZ hj;rw[List.getElem?_eq_getElem hj] at this;exact Option.some_inj.1 this
 rw[e1,e2] at this
 exact this

def ovP(p q:Pf):Bool:= !decide (q=p)&&cvP p q

theorem fw{p q:Pf}:ovP p q=true↔q≠p∧cvP p q=true:=by unfold ovP;simp

theorem i8{w w':Int}{p q:Pf}(hp:riP w p=true)(hq:riP w' q=true)(h:ovP p q=true):cpP p q<0:=by
 obtain⟨hn,hc⟩:=fw.1 h
 obtain⟨_,p1,p2,p3⟩:=jd.1 hp
 obtain⟨_,q1,q2,q3⟩:=jd.1 hq
 obtain⟨c1,c2⟩:=fI.1 hc
 have hle:V p.a p.b≤V q.a q.b:=Nn fun i hi hb=>by
  by_cases h':(i:Int)<p.len
  ·rw[←c2 i hi h'];exact hb
  ·rw[p3 i hi (by omega)] at hb;cases hb
 rw[qM]
 rcases Nat.lt_or_eq_of_le hle with h'|h'
 ·exact .inl h'
 ·refine .inr ⟨h', ?_⟩
  rcases Int.lt_or_eq_of_le c1 with h2|h2
  ·exact h2
  ·exact absurd (qn hq hp h2.symm (c:=q.a) (d:=q.b) (fR.2 fun i _ _=>rfl) (fR.2 c2)) hn

theorem Li{w:Int}{y z x:Pf}(hy:riP w y=true)(hz:riP w z=true)(h1:ovP y x=true)(h2:ovP z x=true)(h:cpP y z<0):ovP y z=true:=by
 obtain⟨a1,a2⟩:=fI.1 (fw.1 h1).2
 obtain⟨b1,b2⟩:=fI.1 (fw.1 h2).2
 have hne:z≠y:=fun e=>by rw[e,fa] at h;omega
 by_cases hl:y.len≤z.len
 ·exact fw.2 ⟨hne,fI.2 ⟨hl,fun i hi hi2=>by rw[a2 i hi hi2,b2 i hi (by omega)]⟩⟩
 ·have:=i8 hz hy (fw.2 ⟨fun e=>hne e.symm,fI.2 ⟨by omega,fun i hi hi2=>by rw[b2 i hi hi2,a2 i hi (by omega)]⟩⟩)
  have:=fL h this
  rw[fa] at this
  omega

def cvL(l:List Ro)(q:Pf):List Ro:=l.filter fun y=>ovP y.p q

theorem gt{l:List Ro}{q:Pf}{x:Ro}:x∈cvL l q↔x∈l∧ovP x.p q=true:=by
 unfold cvL;rw[List.mem_filter]

theorem wv{w:Int}{l:List Ro}(h:TB w l)(q:Pf):og (cvL l q):=by
 have hs:(cvL l q).Pairwise fun x y=>cpP x.p y.p<0:=h.sorted.filter _
 refine hs.imp_of_mem fun {a b} ha hb hab=> ?_
 obtain⟨a1,a2⟩:=gt.1 ha
 obtain⟨b1,b2⟩:=gt.1 hb
 exact fw.1 (Li (h.rip a1) (h.rip b1) a2 b2 hab)

theorem y0{w:Int}{l:List Ro}(h:TB w l){x:Ro}(hx:x∈l):((cvL l x.p).length:Int)+1≤chR l:=by
 have hc:og (cvL l x.p++[x]):=by
  unfold og
  rw[List.pairwise_append]
  refine⟨wv h _,List.pairwise_singleton _ _,fun a ha b hb=> ?_⟩
  obtain rfl:=List.mem_singleton.1 hb
  exact fw.1 (gt.1 ha).2
 have:=oc (l:=l) hc fun y hy=>by
  rcases List.mem_append.1 hy with hy|hy
  ·exact (gt.1 hy).1
  ·rw[List.mem_singleton.1 hy];exact hx
 rw[List.length_append] at this
 simpa using this

theorem za{w:Int}{l:List Ro}(h:TB w l){n:Int}(hn:0≤n)(hc:∀x∈l,((cvL l x.p).length:Int)+1≤n):chR l≤n:=by
 obtain⟨s,h1,h2,h3⟩:=l6 l
 rw[←h3]
 rcases List.eq_nil_or_concat s with rfl| ⟨t,x,rfl⟩
 ·exact hn
 ·rw[List.concat_eq_append] at*
  have hp:=h1
  unfold og at hp
  rw[List.pairwise_append] at hp
  obtain⟨p1,_,p3⟩:=hp
  have hx:x∈l:=h2 x (by simp)
  have tl:∀y∈t,y∈l:=fun y hy=>h2 y (by simp[hy])
  have ts:t.Pairwise fun a b=>cpP a.p b.p<0:=p1.imp_of_mem fun {a b} ha hb hab=>i8 (h.rip (tl a ha)) (h.rip (tl b hb)) (fw.2 hab)
  have e:t=(cvL l x.p).filter fun y=>decide (y∈t):=sr ts ((h.sorted.filter _).filter _) fun y=>by
   rw[List.mem_filter,decide_eq_true_eq,gt]
   constructor
   ·intro hy
    exact⟨⟨tl y hy,fw.2 (p3 y hy x (by simp))⟩,hy⟩
   ·intro hy
    exact hy.2
  have hl:t.length≤(cvL l x.p).length:=by
   rw[e];exact List.length_filter_le _ _
  have:=hc x hx
  rw[List.length_append]
  simp only[List.length_cons,List.length_nil]
  omega

theorem ut{w:Int}{l:List Ro}(h:TB w l){i:Nat}(hi:i<l.length):cvL l (at' l i).p=cvL (l.take i) (at' l i).p:=by
 have e:l=l.take i++l.drop i:=(List.take_append_drop i l).symm
 have hn:cvL (l.drop i) (at' l i).p=[]:=by
  unfold cvL
  rw[List.filter_eq_nil_iff]
  intro y hy ho
  have hy':y∈l:=List.mem_of_mem_drop hy
  have a:=i8 (h.rip hy') (h.rip (fb hi)) ho
  obtain⟨k,hk,rfl⟩:=List.mem_iff_getElem.1 hy
  rw[List.length_drop] at hk
  rw[List.getElem_drop] at a
  have e2:l[i+k]=at' l (i+k):=by have:=eZ (show i+k<l.length by omega);rw[List.getElem?_eq_getElem (by omega)] at this;exact Option.some_inj.1 this
  rw[e2] at a
  rcases Nat.eq_zero_or_pos k with rfl|h0
  ·rw[Nat.add_zero,fa] at a;omega
  ·have:=fL a (h.at (show i<i+k by omega) (by omega))
   rw[fa] at this;omega
 have key:∀m:List Ro,m=l.take i++l.drop i→cvL m (at' l i).p=cvL (l.take i) (at' l i).p:=fun m hm=>by
  rw[hm]
  have:cvL (l.take i++l.drop i) (at' l i).p=cvL (l.take i) (at' l i).p++cvL (l.drop i) (at' l i).p:=List.filter_append _ _
  rw[this,hn,List.append_nil]
 exact key l e

theorem q8{w:Int}{y m x:Pf}(hy:riP w y=true)(hm:riP w m=true)(h:ovP y x=true)(h1:cpP y m<0)(h2:cpP m x<0):ovP y m=true:=by
 obtain⟨a1,a2⟩:=fI.1 (fw.1 h).2
 obtain⟨_,y1,y2,y3⟩:=jd.1 hy
 obtain⟨_,m1,m2,m3⟩:=jd.1 hm
 have hne:m≠y:=fun e=>by rw[e,fa] at h1;omega
 have ym:V y.a y.b≤V m.a m.b:=by rcases qM.1 h1 with h|h<;>omega
 have mx:V m.a m.b≤V x.a x.b:=by rcases qM.1 h2 with h|h<;>omega
 --bit for bit,up to y's length
 have bits:∀n:Nat,n≤128→(n:Int)≤y.len→∀i,i<n→eH y.a y.b i=eH m.a m.b i:=by
  intro n
  induction n with
  |zero=>intro _ _ i hi;omega
  |succ n ih=>
   intro hn hl i hi
   have ih':=ih (by omega) (by omega)
   rcases Nat.lt_or_eq_of_le (Nat.le_of_lt_succ hi) with h'|rfl
   ·exact ih' i h'
   ·have xy:eH y.a y.b i=eH x.a x.b i:=a2 i (by omega) (by omega)
    cases hb:eH m.a m.b i with
    |true=>
     cases hc:eH y.a y.b i with
     |true=>rfl
     |false=>
      have:=uS (a:=x.a) (b:=x.b) (c:=m.a) (d:=m.b) (n:=i) (by omega) (fun k hk=>by rw[←a2 k (by omega) (by omega)];exact ih' k hk) (by rw[←xy];exact hc) hb
      omega
    |false=>
     cases hc:eH y.a y.b i with
     |false=>rfl
     |true=>
      have:=uS (a:=m.a) (b:=m.b) (c:=y.a) (d:=y.b) (n:=i) (by omega) (fun k hk=>(ih' k hk).symm) hb hc
      omega
 have all:∀i:Nat,i<128→(i:Int)<y.len→eH y.a y.b i=eH m.a m.b i:=fun i hi hl=>bits (i+1) (by omega) (by omega) i (by omega)
 refine fw.2 ⟨hne,fI.2 ⟨?_,all⟩⟩
 by_cases hl:y.len≤m.len
 ·exact hl
 ·exfalso
  have e:V m.a m.b≤V y.a y.b:=Nn fun i hi hb=>by
   by_cases h':(i:Int)<m.len
   ·rw[all i hi (by omega)];exact hb
   ·rw[m3 i hi (by omega)] at hb;cases hb
  rcases qM.1 h1 with h'|h'
  ·omega
  ·omega

theorem J8{w:Int}{l:List Ro}(h:TB w l){i:Nat}(hi:i+1<l.length):cvL l (at' l (i+1)).p=(cvL l (at' l i).p++[at' l i]).filter fun y=>ovP y.p (at' l (i+1)).p:=by
 have hi':i<l.length:=by omega
 have hlt:=h.at (show i<i+1 by omega) hi
 have hs:(cvL l (at' l i).p++[at' l i]).Pairwise fun x y=>cpP x.p y.p<0:=by
  rw[List.pairwise_append]
  refine⟨h.sorted.filter _,List.pairwise_singleton _ _,fun a ha b hb=> ?_⟩
  obtain rfl:=List.mem_singleton.1 hb
  obtain⟨a1,a2⟩:=gt.1 ha
  exact i8 (h.rip a1) (h.rip (fb hi')) a2
 refine sr (h.sorted.filter _) (hs.filter _) fun y=> ?_
 rw[gt,List.mem_filter,List.mem_append,gt,List.mem_singleton]
 constructor
 ·rintro⟨hy,ho⟩
  refine⟨?_,ho⟩
  by_cases e:y=at' l i
  ·exact .inr e
  ·refine .inl ⟨hy, ?_⟩
   obtain⟨k,hk,rfl⟩:=fi hy
   have a:=i8 (h.rip hy) (h.rip (fb hi)) ho
   have hk1:k<i:=by
    rcases Nat.lt_trichotomy k i with h'|h'|h'
    ·exact h'
    ·exact absurd (by rw[h']) e
    ·exfalso
     rcases Nat.lt_or_eq_of_le (show i+1≤k from h') with h''|h''
     ·have:=fL a (h.at h'' hk)
      rw[fa] at this;omega
     ·rw[←h'',fa] at a;omega
   exact q8 (h.rip hy) (h.rip (fb hi')) ho (h.at hk1 hi') hlt
 ·rintro⟨hy|rfl,ho⟩
  ·exact⟨hy.1,ho⟩
  ·exact⟨fb hi',ho⟩

theorem I0{w:Int}{y z:Pf}{c d:BitVec 64}(hy:riP w y=true)(hz:riP w z=true)(h1:mtP y c d=true)(h2:mtP z c d=true)(h:cpP y z<0):y.len<z.len:=by
 by_cases hl:y.len<z.len
 ·exact hl
 ·exfalso
  have e:z≠y:=fun e=>by rw[e,fa] at h;omega
  have:=i8 hz hy (fw.2 ⟨fun e'=>e e'.symm,fI.2 ⟨by omega,fun i hi hi2=>by rw[fR.1 h2 i hi hi2,fR.1 h1 i hi (by omega)]⟩⟩)
  have:=fL h this
  rw[fa] at this
  omega

theorem wL{w:Int}{l:List Ro}(h:TB w l){c d:BitVec 64}(hl:∀j,j<l.length→mtP (at' l j).p c d=false):bsR l c d=none:=
 Cp fun j hj=>by rw[xU h (fb hj)];exact hl j hj

theorem Kt{w:Int}{l:List Ro}(h:TB w l){c d:BitVec 64}{r:Int}(hr:FbX (fun x=>mtP x.p c d) lnR l l.length r):bsR l c d=if r<0 then none else some (at' l r.toNat):=by
 rcases hr with⟨rfl,h2⟩| ⟨i,rfl,hi,h1,h2⟩
 ·rw[if_pos (by omega),wL h h2]
 ·rw[if_neg (by omega)]
  refine (rV h (fb hi) h1 fun y hy hm=> ?_).trans rfl
  obtain⟨j,hj,rfl⟩:=fi hy
  exact (h2 j hj hm).1

theorem gC{w w':Int}{p q:Pf}(hp:riP w p=true)(hq:riP w' q=true):ovP p q=true↔p.len<q.len∧mtP p q.a q.b=true:=by
 rw[fw,fI,fR]
 constructor
 ·rintro⟨h1,h2,h3⟩
  refine⟨?_,h3⟩
  rcases Int.lt_or_eq_of_le h2 with h|h
  ·exact h
  ·exact absurd (qn hq hp h.symm (c:=q.a) (d:=q.b) (fR.2 fun i _ _=>rfl) (fR.2 h3)) h1
 ·rintro⟨h1,h2⟩
  exact⟨fun e=>by rw[e] at h1;omega,Int.le_of_lt h1,h2⟩

theorem jq{l:List Ro}{n:Int}{x:Ro}:x∈l.filter (fun x=>decide (x.p.len<n))↔x∈l∧x.p.len<n:=by
 rw[List.mem_filter,decide_eq_true_eq]

theorem wu{w w':Int}{l:List Ro}(h:TB w l){p:Pf}(hp:riP w' p=true)(hl:∀j,j<l.length→ovP (at' l j).p p=false):jh l p=none:=by
 rcases uF (oB h p.len) p.a p.b with⟨h1,_⟩| ⟨x,hx,_,h2,_⟩
 ·exact h1
 ·obtain⟨a,b⟩:=jq.1 hx
  obtain⟨j,hj,rfl⟩:=fi a
  have:=(gC (h.rip a) hp).2 ⟨b,h2⟩
  rw[hl j hj] at this
  cases this

theorem BX{w w':Int}{l:List Ro}(h:TB w l){p:Pf}(hp:riP w' p=true){x:Ro}(hx:x∈l)(ho:ovP x.p p=true)(hm:∀y∈l,ovP y.p p=true→y.p.len≤x.p.len):jh l p=some x:=by
 obtain⟨a,b⟩:=(gC (h.rip hx) hp).1 ho
 exact rV (oB h p.len) (jq.2 ⟨hx,a⟩) b fun y hy hy2=>by
  obtain⟨c,d⟩:=jq.1 hy
  exact hm y c ((gC (h.rip c) hp).2 ⟨d,hy2⟩)

def opR(l:List Ro)(i:Nat):List Ro:=cvL l (at' l i).p++[at' l i]

theorem IE{w:Int}{l:List Ro}(h:TB w l){i:Nat}(hi:i+1<l.length):opR l (i+1)=(opR l i).filter (fun y=>ovP y.p (at' l (i+1)).p)++[at' l (i+1)]:=by
 unfold opR
 rw[J8 h hi]

theorem ID{w:Int}{l:List Ro}(h:TB w l)(hi:0<l.length):opR l 0=[at' l 0]:=by
 unfold opR
 rw[ut h hi]
 rfl

theorem Dk{w:Int}{l:List Ro}(h:TB w l){i:Nat}(hi:i+1<l.length){a b:Nat}(hab:a<b)(hb:b< (opR l i).length)(ho:ovP (at' (opR l i) b).p (at' l (i+1)).p=true):ovP (at' (opR l i) a).p (at' l (i+1)).p=true:=by
 have hi':i<l.length:=by omega
 have hc:og (opR l i):=by
  unfold opR og
  rw[List.pairwise_append]
  refine⟨wv h _,List.pairwise_singleton _ _,fun a ha b hb=> ?_⟩
  obtain rfl:=List.mem_singleton.1 hb
  exact fw.1 (gt.1 ha).2
 have ha:a< (opR l i).length:=by omega
 have:=List.pairwise_iff_getElem.1 hc a b ha hb hab
 have e1:(opR l i)[a]=at' (opR l i) a:=by have:=eZ ha;rw[List.getElem?_eq_getElem ha] at this;exact Option.some_inj.1 this
 have e2:(opR l i)[b]=at' (opR l i) b:=by have:=eZ hb;rw[List.getElem?_eq_getElem hb] at this;exact Option.some_inj.1 this
 rw[e1,e2] at this
 obtain⟨n1,n2⟩:=this
 obtain⟨o1,o2⟩:=fw.1 ho
 obtain⟨c1,c2⟩:=fI.1 n2
 obtain⟨d1,d2⟩:=fI.1 o2
 have mem:∀k,k< (opR l i).length→at' (opR l i) k∈l:=fun k hk=>by
  have all:∀y,y∈opR l i→y∈l:=fun y hy=>by
   unfold opR at hy
   rcases List.mem_append.1 hy with h'|h'
   ·exact (gt.1 h').1
   ·rw[List.mem_singleton.1 h'];exact fb hi'
  exact all _ (fb hk)
 have l1:=i8 (h.rip (mem a ha)) (h.rip (mem b hb)) (fw.2 ⟨n1,n2⟩)
 have l2:=i8 (h.rip (mem b hb)) (h.rip (fb hi)) ho
 refine fw.2 ⟨fun e=> ?_,fI.2 ⟨by omega,fun k hk hk2=>by rw[c2 k hk hk2,d2 k hk (by omega)]⟩⟩
 rw[e] at l2
 have:=fL l1 l2
 rw[fa] at this
 omega

theorem Kn{w:Int}{l:List Ro}(h:TB w l){n:Int}(h0:0≤n)(h1:∀i,i<l.length→((opR l i).length:Int)≤n)(h2:n=0∨∃i,i<l.length∧n=((opR l i).length:Int)):chR l=n:=by
 have len:∀i,((opR l i).length:Int)=((cvL l (at' l i).p).length:Int)+1:=fun i=>by
  unfold opR
  rw[List.length_append];simp
 have a:chR l≤n:=za h h0 fun x hx=>by
  obtain⟨i,hi,rfl⟩:=fi hx
  rw[←len];exact h1 i hi
 rcases h2 with rfl| ⟨i,hi,rfl⟩
 ·obtain⟨s,_,_,e⟩:=l6 l
  omega
 ·have:=y0 h (fb hi)
  rw[←len] at this
  omega

end Go.Sx.M
end

