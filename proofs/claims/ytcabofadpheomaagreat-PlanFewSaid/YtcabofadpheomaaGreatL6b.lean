/-
 Texts in one: L6R L6S L6U L6L.
-/
import Derived.Test.YtcabofadpheomaaGreatL6a
import Derived.Test.YtcabofadpheomaaGreatSxc
import Derived.Test.YtcabofadpheomaaGreatShelf

section
namespace Go.Sx.M
open Go.Proofs.YtcabofadpheomaaGreat.L1

def plN(l:List Ro)(p:Pf):Nat:=(l.takeWhile fun x=>decide (cpP x.p p<0)).length

def PlN(l:List Ro)(p:Pf)(i:Nat):Prop:=i≤l.length∧(∀t,t<i→cpP (at' l t).p p<0)∧(i<l.length→¬cpP (at' l i).p p<0)

theorem Iw{p:Pf}:∀{l:List Ro} {i:Nat},PlN l p i→plN l p=i
 | [],i,⟨h,_,_⟩=>by
  have:i=0:=by simpa using h
  subst this;rfl
 |y::l,0,⟨_,_,h⟩=>by
  have h0:¬cpP y.p p<0:=h (by simp)
  unfold plN
  rw[List.takeWhile_cons_of_neg (by simpa using h0)]
  rfl
 |y::l,i+1,⟨h1,h2,h3⟩=>by
  have h0:cpP y.p p<0:=h2 0 (by omega)
  have ih:plN l p=i:=Iw ⟨by simpa using h1,fun t ht=>h2 (t+1) (by omega),fun hi=>h3 (by simpa using hi)⟩
  unfold plN at ih⊢
  rw[List.takeWhile_cons_of_pos (by simpa using h0),List.length_cons,ih]

theorem od(p:Pf):∀l:List Ro,PlN l p (plN l p)
 | []=>⟨Nat.le_refl _,fun t ht=>absurd ht (Nat.not_lt_zero _),fun h=>absurd h (Nat.not_lt_zero _)⟩
 |y::l=>by
  have ih:=od p l
  by_cases h0:cpP y.p p<0
  ·have e:plN (y::l) p=plN l p+1:=by
    unfold plN;rw[List.takeWhile_cons_of_pos (by simpa using h0),List.length_cons]
   rw[e]
   obtain⟨h1,h2,h3⟩:=ih
   refine⟨by simpa using h1,fun t ht=> ?_,fun hi=>h3 (by simpa using hi)⟩
   cases t with
   |zero=>exact h0
   |succ t=>exact h2 t (by omega)
  ·have e:plN (y::l) p=0:=by
    unfold plN;rw[List.takeWhile_cons_of_neg (by simpa using h0)];rfl
   rw[e]
   exact⟨Nat.zero_le _,fun t ht=>absurd ht (Nat.not_lt_zero _),fun _=>h0⟩

theorem Ff{w:Int}{l:List Ro}(h:TB w l){p:Pf}{s t:Nat}(hst:s≤t)(ht:t<l.length)(hc:cpP (at' l t).p p<0):cpP (at' l s).p p<0:=by
 rcases Nat.lt_or_eq_of_le hst with h'|rfl
 ·exact fL (h.at h' ht) hc
 ·exact hc

theorem M5{w:Int}{l:List Ro}(h:TB w l){p:Pf}{s t:Nat}(hst:s≤t)(ht:t<l.length)(hc:¬cpP (at' l s).p p<0):¬cpP (at' l t).p p<0:=fun h'=>hc (Ff h hst ht h')

theorem pU{w:Int}{l:List Ro}(h:TB w l){p:Pf}{i:Nat}(hp:PlN l p i):(fdR l p=none∧∀x∈l,x.p≠p)∧(i<l.length→cpP (at' l i).p p≠0)∨i<l.length∧cpP (at' l i).p p=0∧(at' l i).p=p∧fdR l p=some (at' l i):=by
 obtain⟨h1,h2,h3⟩:=hp
 by_cases hc:i<l.length∧cpP (at' l i).p p=0
 ·have e:=pY.1 hc.2
  refine .inr ⟨hc.1,hc.2,e, ?_⟩
  have:=OG h (fb hc.1)
  rw[e] at this
  exact this
 ·have hne:∀x∈l,x.p≠p:=by
   intro x hx
   obtain⟨j,hj,rfl⟩:=fi hx
   intro e
   rcases Nat.lt_trichotomy j i with h'|rfl|h'
   ·have:=h2 j h';rw[e,fa] at this;omega
   ·exact hc ⟨hj,by rw[e,fa]⟩
   ·have a:=h.at h' hj
    have b:=h3 (by omega)
    rw[e] at a
    exact b a
  refine .inl ⟨⟨?_,hne⟩,fun hi hz=>hc ⟨hi,hz⟩⟩
  rcases qJ l p with h'| ⟨x,hx,e,_⟩
  ·exact h'.1
  ·exact absurd e (hne x hx)

theorem rQ{w:Int}{l:List Ro}(h:TB w l){p:Pf}(hs:(fdR l p).isSome=true):plN l p<l.length∧fdR l p=some (at' l (plN l p))∧(at' l (plN l p)).p=p:=by
 rcases pU h (od p l) with⟨⟨h1,_⟩,_⟩| ⟨h1,_,h2,h3⟩
 ·rw[h1] at hs;cases hs
 ·exact⟨h1,h3,h2⟩

theorem I6{l:List Ro}{n:Nat}{x:Ro}(hx:x∈l.drop n):∃j,n≤j∧j<l.length∧at' l j=x:=by
 obtain⟨k,hk,rfl⟩:=List.mem_iff_getElem.1 hx
 rw[List.length_drop] at hk
 refine⟨n+k,by omega,by omega, ?_⟩
 rw[List.getElem_drop]
 have:=eZ (show n+k<l.length by omega)
 rw[List.getElem?_eq_getElem (by omega)] at this
 exact (Option.some_inj.1 this).symm

theorem Cz{l:List Ro}{n j:Nat}(hj:j<n)(hl:j<l.length):at' l j∈l.take n:=by
 have:(l.take n)[j]?=some (at' l j):=by rw[List.getElem?_take,if_pos hj,eZ hl]
 exact List.mem_of_getElem? this

theorem CA{l:List Ro}{n j:Nat}(hj:n≤j)(hl:j<l.length):at' l j∈l.drop n:=by
 have:(l.drop n)[j-n]?=some (at' l j):=by rw[List.getElem?_drop,show n+(j-n)=j by omega,eZ hl]
 exact List.mem_of_getElem? this

def bhN(l:List Ro)(p:Pf):Nat:=if (fdR l p).isSome then plN l p+1 else plN l p

theorem tj{w:Int}{l:List Ro}(h:TB w l)(p:Pf):(∀x∈l.take (plN l p),cpP x.p p<0)∧(∀x∈l.drop (bhN l p),cpP p x.p<0)∧∀x,(x∈l∧x.p≠p)↔(x∈l.take (plN l p)∨x∈l.drop (bhN l p)):=by
 have hp:=od p l
 obtain⟨p1,p2,p3⟩:=hp
 have ht:∀x∈l.take (plN l p),cpP x.p p<0:=fun x hx=>by
  obtain⟨j,hj,hl,rfl⟩:=tg hx
  exact p2 j hj
 have hd:∀x∈l.drop (bhN l p),cpP p x.p<0:=fun x hx=>by
  obtain⟨j,hj,hl,rfl⟩:=I6 hx
  rcases pU h (od p l) with⟨⟨h1,h2⟩,_⟩| ⟨h1,_,h2,h3⟩
  ·have e:bhN l p=plN l p:=by unfold bhN;rw[h1];rfl
   rw[e] at hj
   have a:=M5 h hj hl (p3 (by omega))
   have b:cpP (at' l j).p p≠0:=fun e=>h2 _ (fb hl) (pY.1 e)
   exact Kb.1 (by omega)
  ·have e:bhN l p=plN l p+1:=by unfold bhN;rw[h3];rfl
   rw[e] at hj
   have:=h.at (show plN l p<j by omega) hl
   rw[h2] at this
   exact this
 refine⟨ht,hd,fun x=>⟨fun⟨hx,hne⟩=> ?_,fun hx=> ?_⟩⟩
 ·obtain⟨j,hj,rfl⟩:=fi hx
  by_cases hlt:j<plN l p
  ·exact .inl (Cz hlt hj)
  ·refine .inr (CA ?_ hj)
   unfold bhN
   split
   ·rename_i hs
    obtain⟨_,_,e⟩:=rQ h hs
    rcases Nat.lt_or_eq_of_le (Nat.le_of_not_lt hlt) with h'|h'
    ·omega
    ·rw[←h'] at hne;exact absurd e hne
   ·omega
 ·rcases hx with hx|hx
  ·refine⟨List.mem_of_mem_take hx,fun e=> ?_⟩
   have:=ht x hx
   rw[e,fa] at this;omega
  ·refine⟨List.mem_of_mem_drop hx,fun e=> ?_⟩
   have:=hd x hx
   rw[e,fa] at this;omega

theorem Hr{w:Int}{l:List Ro}(h:TB w l)(p:Pf):drR l p=l.take (plN l p)++l.drop (bhN l p):=by
 obtain⟨h1,h2,h3⟩:=tj h p
 refine sr (un h p).sorted ?_ fun x=> ?_
 ·rw[List.pairwise_append]
  exact⟨h.sorted.sublist (List.take_sublist _ _),h.sorted.sublist (List.drop_sublist _ _),fun a ha b hb=>fL (h1 a ha) (h2 b hb)⟩
 ·rw[nP,List.mem_append]
  exact h3 x

theorem GC{w:Int}{l:List Ro}(h:TB w l)(r:Ro):ptR l r=l.take (plN l r.p)++[r]++l.drop (bhN l r.p):=by
 obtain⟨h1,h2,h3⟩:=tj h r.p
 refine sr (tE (un h _).sorted fun x hx=>(nP.1 hx).2) ?_ fun x=> ?_
 ·rw[List.pairwise_append,List.pairwise_append]
  refine⟨⟨h.sorted.sublist (List.take_sublist _ _),List.pairwise_singleton _ _,fun a ha b hb=> ?_⟩,h.sorted.sublist (List.drop_sublist _ _),fun a ha b hb=> ?_⟩
  ·rw[List.mem_singleton.1 hb];exact h1 a ha
  ·rcases List.mem_append.1 ha with ha|ha
   ·exact fL (h1 a ha) (h2 b hb)
   ·rw[List.mem_singleton.1 ha];exact h2 b hb
 ·have:=h3 x
  rw[iH,List.mem_append,List.mem_append,List.mem_singleton]
  constructor
  ·rintro (h|h)
   ·exact .inl (.inr h)
   ·rcases this.1 h with h|h
    ·exact .inl (.inl h)
    ·exact .inr h
  ·rintro ((h|h)|h)
   ·exact .inr (this.2 (.inl h))
   ·exact .inl h
   ·exact .inr (this.2 (.inr h))

def skR(l:List Ro)(i:Nat):List Pf:=if i=0 then [] else (opR l (i-1)).map (·.p)

theorem IF{w:Int}{l:List Ro}(h:TB w l){i:Nat}(hi:i<l.length):(opR l i).length≤i+1:=by
 unfold opR
 rw[ut h hi,List.length_append]
 have:(cvL (l.take i) (at' l i).p).length≤(l.take i).length:=List.length_filter_le _ _
 rw[List.length_take] at this
 simp only[List.length_cons,List.length_nil]
 omega

theorem NJ{w:Int}{l:List Ro}(h:TB w l){i:Nat}(hi:i≤l.length):(skR l i).length≤i:=by
 unfold skR
 split
 ·simp
 ·rw[List.length_map]
  have:=IF h (show i-1<l.length by omega)
  omega

theorem J7{w:Int}{l:List Ro}(h:TB w l){i:Nat}(hi:i<l.length){q:Pf}(hq:∃j,j<i∧(at' l j).p=q):cvP q (at' l i).p=ovP q (at' l i).p:=by
 obtain⟨j,hj,rfl⟩:=hq
 have hne:(at' l i).p≠(at' l j).p:=fun e=>by
  have:=h.at hj hi
  rw[e,fa] at this;omega
 unfold ovP
 rw[decide_eq_false hne]
 simp

theorem K6{w:Int}{l:List Ro}(h:TB w l){i:Nat}(hi:i<l.length){q:Pf}(hq:q∈skR l i):∃j,j<i∧(at' l j).p=q:=by
 unfold skR at hq
 split at hq
 ·cases hq
 ·obtain⟨y,hy,rfl⟩:=List.mem_map.1 hq
  unfold opR at hy
  rcases List.mem_append.1 hy with hy|hy
  ·rw[ut h (show i-1<l.length by omega)] at hy
   obtain⟨j,hj,_,rfl⟩:=tg (gt.1 hy).1
   exact⟨j,by omega,rfl⟩
  ·rw[List.mem_singleton.1 hy]
   exact⟨i-1,by omega,rfl⟩

theorem ni{T:Type}[Inhabited T]{f:T→Bool}:∀{m:List T} {k:Nat},k≤m.length→(∀t,t<k→f (at' m t)=true)→(∀t,k≤t→t<m.length→f (at' m t)=false)→m.filter f=m.take k
 | [],k,h,_,_=>by simp
 |y::m,0,_,_,h3=>by
  rw[List.take_zero,List.filter_eq_nil_iff]
  intro x hx
  obtain⟨j,hj,rfl⟩:=fi hx
  rw[h3 j (Nat.zero_le _) hj];simp
 |y::m,k+1,h1,h2,h3=>by
  have h0:f y=true:=h2 0 (by omega)
  rw[List.filter_cons_of_pos h0,List.take_succ_cons,ni (by simpa using h1) (fun t ht=>h2 (t+1) (by omega)) fun t ht hl=>h3 (t+1) (by omega) (by simpa using hl)]

theorem H2{w:Int}{l:List Ro}(h:TB w l){i:Nat}(hi:i<l.length){k:Nat}(hk:k≤(skR l i).length)(h1:∀t,k≤t→t< (skR l i).length→cvP (at' (skR l i) t) (at' l i).p=false)(h2:0<k→cvP (at' (skR l i) (k-1)) (at' l i).p=true):
  (skR l i).take k++[(at' l i).p]=skR l (i+1):=by
 have e1:skR l (i+1)=(opR l i).map (·.p):=by unfold skR;rw[if_neg (by omega),Nat.add_sub_cancel]
 rw[e1]
 rcases Nat.eq_zero_or_pos i with rfl|h0
 ·have:skR l 0=[]:=rfl
  rw[this,List.take_nil,ID h hi]
  rfl
 ·obtain⟨n,rfl⟩:∃n,i=n+1:=⟨i-1,by omega⟩
  have e2:skR l (n+1)=(opR l n).map (·.p):=by unfold skR;rw[if_neg (by omega),Nat.add_sub_cancel]
  have hq:∀t,t< (opR l n).length→cvP (at' (skR l (n+1)) t) (at' l (n+1)).p=ovP (at' (opR l n) t).p (at' l (n+1)).p:=fun t ht=>by
   have hm:at' (skR l (n+1)) t=(at' (opR l n) t).p:=by
    rw[e2]
    have a:((opR l n).map (·.p))[t]?=some (at' ((opR l n).map (·.p)) t):=eZ (by rw[List.length_map];exact ht)
    rw[List.getElem?_map,eZ ht] at a
    exact (Option.some_inj.1 a).symm
   rw[J7 h hi (K6 h hi (fb (by rw[e2,List.length_map];exact ht))),hm]
  have hlen:(skR l (n+1)).length=(opR l n).length:=by rw[e2,List.length_map]
  rw[hlen] at hk h1
  rw[IE h hi,e2,List.map_append,←List.map_take]
  congr 2
  refine (ni hk (fun t ht=> ?_) fun t ht hl=> ?_).symm
  ·have hl:ovP (at' (opR l n) (k-1)).p (at' l (n+1)).p=true:=by rw[←hq _ (by omega)];exact h2 (by omega)
   rcases Nat.lt_or_eq_of_le (show t≤k-1 by omega) with h'|rfl
   ·exact Dk h hi h' (by omega) hl
   ·exact hl
  ·rw[←hq _ hl];exact h1 t ht hl

end Go.Sx.M
end

section
namespace Go.Proofs.YtcabofadpheomaaGreat.L1
open Go.Sx Go.Sx.M

noncomputable def qE:Sx.Spec:=tF 66 4 32

theorem A5:eJ Tryz.prog 90 qE:=
 A4 Tryz.laysGrow_f90 rfl rfl (by kernel_rfl) noNG Tryz.func90 (by kernel_rfl)
def pfamF:List Arg→(Res→Prop)→Prop
 | [.v (.int .i64 w)],R=>R (.v (.bool (decide (w=32∨w=128))))
 |_,_=>False

def sT:List Arg→(Res→Prop)→Prop
 | [.row r_l, .v (.agg [.w64 a, .w64 b, .int .i64 k])],R=>r_l=(deR r_l).map roE∧tbR 128 (deR r_l)=true∧R (.v (.tuple [.int .i64 (plN (deR r_l) ⟨a,b,k⟩), .bool (fdR (deR r_l) ⟨a,b,k⟩).isSome]))
 |_,_=>False

def Q7:AV:= .func (.func 92) [] []

def Lg(l:List Ro)(a b:BitVec 64)(k:Int)(p:Nat×Nat):St:=
 ⟨[.vsl 0 0 (l.map roE).length, .any,Q7, .any, .ptr 2 0 0 true, .any, .any, .any, .int .i64 (l.map roE).length, .int .i64 p.1, .int .i64 p.2, .any, .any, .any, .any, .any, .any, .any, .any, .any, .any, .any, .any, .any, .any, .any, .any, .any, .any, .any, .any, .any, .any, .any, .any, .any, .any, .any, .any, .any, .any, .any, .any, .any, .any, .any, .any, .any, .any],[some ⟨false,66,4,true,l.map roE⟩,some ⟨true,64,3,true,[.agg [.w64 a, .w64 b, .int .i64 k]]⟩,some ⟨true,64,3,true,[.agg [.w64 a, .w64 b, .int .i64 k]]⟩]⟩
def Q6:Modes:=⟨[1,0,1,0,1,0,0,0,1,2,2,0,0,0,0,0,0,0,0,0,0,0,0,0,0,0,0,0,0,0,0,0,0,0,0,0,0,0,0,0,0,0,0,0,0,0,0,0,0],[],[],[],[]⟩
def plM:Modes:=⟨[1,0,1,0,1,0,0,0,1,1,1,0,0,0,0,0,0,0,0,0,0,0,0,0,0,0,0,0,0,0,0,0,0,0,0,0,0,0,0,0,0,0,0,0,0,0,0,0,0],[],[],[],[]⟩
def plI(l:List Ro)(q:Pf)(p:Nat×Nat):Prop:=p.1≤p.2∧p.2≤l.length∧(∀t,t<p.1→cpP (at' l t).p q<0)∧∀t,p.2≤t→t<l.length→¬cpP (at' l t).p q<0
def plH(l:List Ro)(a b:BitVec 64)(k:Int):List Hint:=[.linv (Nat×Nat) (0,(l.map roE).length) (Lg l a b k) (plI l ⟨a,b,k⟩) (fun p=>p.2-p.1) Q6 plM plM (fun p=>[.fork [.dy, .cell (roE (at' l p.1))] []]) fun p=>
 [.fork [.nw, .ix ((p.1+p.2)/2), .cell (roE (at' l ((p.1+p.2)/2))), .fork [.nw] []] []]]

noncomputable def k9:List (FuncId×Sx.Spec):=[(49,ey [none,none] qm)]

theorem A6(w:Int)(a b:BitVec 64)(k j:Int)(r:AV):run k9 Tryz.prog 21 [.int .i64 w, .agg [.w64 a, .w64 b, .int .i64 k, .int .i64 j]] [] [.fork [.fork [] []] []] (eM (.v r))=
  ((gh w a b k=true→(Decidable.decide ((1:Int)≤j)=true→AV.bool (Decidable.decide (j≤(255:Int)))=r)∧(Decidable.decide ((1:Int)≤j)=false→AV.bool false=r))∧(gh w a b k=false→AV.bool false=r)):=by kernel_rfl

theorem yr:∀e∈k9,eJ Tryz.prog e.1 e.2:=by
 intro e he
 simp only[k9,List.mem_cons,List.not_mem_nil,or_false] at he
 rcases he with rfl
 ·exact GE

theorem DM:eJ Tryz.prog 21 (ey [none,none] Gt):=by
 refine eK (eS (l:=k9) yr mixed noNG) fun l R hF=> ?_
 unfold Gt at hF
 split at hF
 ·rename_i w a b k j
  refine⟨_,hF,rfl,[.fork [.fork [] []] []], ?_⟩
  show run k9 Tryz.prog _ [.int .i64 w, .agg [.w64 a, .w64 b, .int .i64 k, .int .i64 j]] [] _ _
  rw[A6]
  have e:riR w ⟨⟨a,b,k⟩,j⟩=(gh w a b k&&(decide (j≥1)&&decide (j≤255))):=rfl
  refine⟨fun h=>⟨fun h1=> ?_,fun h1=> ?_⟩,fun h=> ?_⟩
  ·rw[e,h,show decide (j≥1)=true from h1];rfl
  ·rw[e,h,show decide (j≥1)=false from h1];rfl
  ·rw[e,h];rfl
 ·exact hF.elim

noncomputable def mI:List (FuncId×Sx.Spec):=[(93,ey [none,none] wA)]

theorem De(l:List Ro)(a b:BitVec 64)(k:Int)(r:AV):run mI Tryz.prog 52 [.vsl 0 0 (l.map roE).length, .agg [.w64 a, .w64 b, .int .i64 k]] [some ⟨false,(pRo.getD (0,0)).1,(pRo.getD (0,0)).2,true,(l.map roE)⟩] (plH l a b k) (eM (.v r))=
  (let F:=(2:Nat);let E:=(0:Int);let B:=AV.func (Fn.func (92:FuncId)) [] [];let x:=plI l (Pf.mk a b k);let o:=(0:Nat);let t:=AV.ptr (o+(1:Nat)+(1:Nat)) o o true;let m:=Blk.mk false (66:TypeId) (4:Nat) true (List.map roE l);let j:=List.length (List.map roE l);let D:=AV.vsl o o (j);let w:=(↑(j):Int);let i:=AV.int IntKind.i64;let C:=[AV.agg [AV.w64 a,AV.w64 b,i k]];let u:=Blk.mk true (64:Nat) (3:Nat) true C;let n:=Blk.mk true (64:TypeId) (3:Nat) true C;let H:=[some m,some n,some n];let f:=AV.any;((St.mk [D,f,AV.func (Fn.func (92:Nat)) [] [],f,t,f,f,f,i w,i E,i w,f,f,f,f,f,f,f,f,f,f,f,f,f,f,f,f,f,f,f,f,f,f,f,f,f,f,f,f,f,f,f,f,f,f,f,f,f,f] [some m,some u,some u]=Lg l a b k (o,j)∧x (o,j))∧∀(c:Nat×Nat),let A:=(↑c.2:Int);let z:=at' l ((Prod.fst c+Prod.snd c)/F);let s:=(↑c.1:Int);let I:=Decidable.decide (s<w);let G:=Decidable.decide (s<A);let q:=Ro.p (at' l (Prod.fst c));let h:=IntKind.wrap IntKind.i64 (↑(BitVec.toNat (BitVec.ofInt (64:Nat) (s+A)>>>Int.toNat (1:Int))):Int);let g:=Ro.p z;let y:=Decidable.decide (rB g.1 g.2 g.3 a b k<E);x c→(G=true→inRange IntKind.i64 (s+A)∧h=(↑((c.1+c.2)/F):Int)∧(c.1+c.2)/F<j∧Blk.read Proofs.Tryz.prog m (66:Nat) (o+(c.1+c.2)/F) o=some (AV.agg [AV.w64 g.1,AV.w64 g.2,i g.3,i z.2])∧(y=true→inRange IntKind.i64 (h+(1:Int))∧∃(d:Nat×Nat),St.mk [D,f,B,f,t,f,f,f,i w,i (h+(1:Int)),i A,f,f,f,f,f,f,f,f,f,f,f,f,f,f,f,f,f,f,f,f,f,f,f,f,f,f,f,f,f,f,f,f,f,f,f,f,f,f] H=Lg l a b k d∧x d∧d.2-d.1<c.2-c.1)∧(y=false→∃(e:Nat×Nat),St.mk [D,f,B,f,t,f,f,f,i w,i s,i (h),f,f,f,f,f,f,f,f,f,f,f,f,f,f,f,f,f,f,f,f,f,f,f,f,f,f,f,f,f,f,f,f,f,f,f,f,f,f] H=Lg l a b k e∧x e∧e.2-e.1<c.2-c.1))∧(G=false→(I=true→(E≤s∧s<w)∧Blk.read Proofs.Tryz.prog m (66:Nat) (o+Int.toNat s) o=some (AV.agg [AV.w64 q.1,AV.w64 q.2,i q.3,i (at' l (Prod.fst c)).2])∧AV.tuple [i s,AV.bool (rB q.1 q.2 q.3 a b k==E)]=r)∧(I=false→AV.tuple [i s,AV.bool false]=r)))):=by kernel_rfl

theorem Ao:∀e∈mI,eJ Tryz.prog e.1 e.2:=by
 intro e he
 simp only[mI,List.mem_cons,List.not_mem_nil,or_false] at he
 rcases he with rfl
 ·exact Mh

theorem qt:eJ Tryz.prog 52 (ey [pRo,none] sT):=by
 refine eK (eS (l:=mI) Ao mixed noNG) fun l R hF=> ?_
 unfold sT at hF
 split at hF
 ·rename_i r_l a b k
  obtain⟨hr_l,hl,hF⟩:=hF
  generalize deR r_l=l at hr_l hl hF
  subst hr_l
  refine⟨_,hF,rfl,(plH l a b k), ?_⟩
  show run mI Tryz.prog _ [.vsl 0 0 (l.map roE).length, .agg [.w64 a, .w64 b, .int .i64 k]] [some ⟨false,(pRo.getD (0,0)).1,(pRo.getD (0,0)).2,true,(l.map roE)⟩] _ _
  rw[De];(conv=>zeta)
  have T:=gm.1 hl
  have hm:=T.most
  have half:∀a b:Nat,a+b≤1000000→IntKind.i64.wrap (((BitVec.ofInt 64 ((a:Int)+(b:Int)))>>>Int.toNat 1).toNat:Int)=(((a+b)/2:Nat):Int):=fun a b h=>by
   have e:=toNat_ofInt (n:=(a:Int)+b) (by omega) (by omega)
   have e2:(BitVec.ofInt 64 ((a:Int)+(b:Int))).toNat=a+b:=by omega
   rw[BitVec.toNat_ushiftRight,e2,show Int.toNat 1=1 from rfl,Nat.shiftRight_eq_div_pow,IntKind.wrap_i64]
   omega
  refine⟨⟨rfl,Nat.zero_le _,by rw[List.length_map];exact Nat.le_refl _,fun t ht=>absurd ht (Nat.not_lt_zero _),fun t h1 h2=>by rw[List.length_map] at h1;omega⟩, ?_⟩
  rintro⟨i,j⟩ ⟨h1,h2,h3,h4⟩
  dsimp only at h1 h2 h3 h4⊢
  refine⟨fun hlt=> ?_,fun hge=> ?_⟩
  ·have hlt:i<j:=by have:=of_decide_eq_true hlt;omega
   have hh:=half i j (by omega)
   have hb:(i+j)/2<l.length:=by omega
   refine⟨inR (by omega) (by omega),hh,by rw[List.length_map];exact hb,eL (k:=(((i+j)/2:Nat):Int)) (by omega) (by rw[List.length_map];omega) (il _),fun hc=> ?_,fun hc=> ?_⟩
   ·have hc:cpP (at' l ((i+j)/2)).p ⟨a,b,k⟩<0:=of_decide_eq_true hc
    refine⟨by rw[hh];exact inR (by omega) (by omega),((i+j)/2+1,j),by rw[hh];rfl,⟨?_,h2,fun t ht=>Ff T ?_ hb hc,h4⟩, ?_⟩
    ·show (i+j)/2+1≤j
     omega
    ·have ht:t< (i+j)/2+1:=ht
     omega
    ·show j-((i+j)/2+1)<j-i
     omega
   ·have hc:¬cpP (at' l ((i+j)/2)).p ⟨a,b,k⟩<0:=of_decide_eq_false hc
    refine⟨(i,(i+j)/2),by rw[hh];rfl,⟨?_, ?_,h3,fun t ht htl=>M5 T ht htl hc⟩, ?_⟩
    ·show i≤(i+j)/2
     omega
    ·show (i+j)/2≤l.length
     omega
    ·show (i+j)/2-i<j-i
     omega
  ·have he:i=j:=by have:=of_decide_eq_false hge;omega
   subst he
   have hp:PlN l ⟨a,b,k⟩ i:=⟨h2,h3,fun hi=>h4 i (Nat.le_refl _) hi⟩
   rw[Iw hp]
   refine⟨fun hlt=> ?_,fun hge=> ?_⟩
   ·have hi:i<l.length:=by have:=of_decide_eq_true hlt;rw[List.length_map] at this;omega
    refine⟨⟨by omega,by rw[List.length_map];omega⟩,eL (k:=(i:Int)) (by omega) (by rw[List.length_map];omega) (il _), ?_⟩
    have e:(rB (at' l i).p.a (at' l i).p.b (at' l i).p.len a b k==0)=(fdR l ⟨a,b,k⟩).isSome:=by
     have d:rB (at' l i).p.a (at' l i).p.b (at' l i).p.len a b k=cpP (at' l i).p ⟨a,b,k⟩:=rfl
     rw[d]
     rcases pU T hp with⟨⟨h,_⟩,hn⟩| ⟨_,h0,_,h⟩
     ·rw[h,beq_false_of_ne (hn hi)];rfl
     ·rw[h,h0];rfl
    rw[←e]
   ·have hi:¬i<l.length:=by have:=of_decide_eq_false hge;rw[List.length_map] at this;omega
    have e:fdR l ⟨a,b,k⟩=none:=by
     rcases pU T hp with⟨⟨h,_⟩,_⟩| ⟨h,_⟩
     ·exact h
     ·exact absurd h hi
    rw[e];rfl
 ·exact hF.elim

end Go.Proofs.YtcabofadpheomaaGreat.L1
end

section
namespace Go.Proofs.YtcabofadpheomaaGreat.L1
open Go.Sx Go.Sx.M

def ptHd(l:List Ro)(q:Pf)(x y:List Hint):List Hint:=[.fork (.ix (plN l q):: .nw:: .ix (plN l q+1)::x) (.ix (plN l q):: .ix (plN l q)::y)]
def gpH(F:List Ro→List AV)(l:List Ro)(r:Ro):List Hint:=
 [.fork [.ix (plN l r.p), .nw, .ix (plN l r.p+1), .loop 4, .nw, .br false, .nw, .br false, .nw, .br false, .loop 4, .rows (F (l.take (plN l r.p))), .rows (F (l.take (plN l r.p)++[r])), .rows (F (ptR l r))]
  [.ix (plN l r.p), .ix (plN l r.p), .loop 4, .nw, .br false, .nw, .br false, .nw, .br false, .loop 4, .rows (F (l.take (plN l r.p))), .rows (F (l.take (plN l r.p)++[r])), .rows (F (ptR l r))]]
def gdH(F:List Ro→List AV)(l:List Ro)(q:Pf):List Hint:=
 [.fork [.ix (plN l q), .nw, .ix (plN l q+1), .loop 3, .nw, .br false, .nw, .br false, .loop 3, .rows (F (l.take (plN l q))), .rows (F (drR l q))]
  [.ix (plN l q), .ix (plN l q), .loop 3, .nw, .br false, .nw, .br false, .loop 3, .rows (F (l.take (plN l q))), .rows (F (drR l q))]]

def kpX(ok:Ro→Bool)(l:List Ro)(p:Nat):Int:=fbX ok lnR l p
def kxR(ok:Ro→Bool)(l:List Ro)(p:Nat):Ro:=if kpX ok l p<0 then⟨⟨0#64,0#64,0⟩,0⟩ else at' l (kpX ok l p).toNat

def Ql:AV:= .func (.func 81) [] [.ptr 1 0 0 true]
def PD:AV:=roE ⟨⟨0#64,0#64,0⟩,0⟩
def DD(fn:AV)(box:Blk)(ok:Ro→Bool)(l:List Ro)(p:Nat):St:=
 ⟨[.any,fn, .any, .any, .ptr 3 0 0 true, .any, .ptr 4 0 0 true, .bool (decide (kpX ok l p≥0)), .any, .any, .any, .vsl 0 0 (l.map roE).length, .int .i64 (l.map roE).length, .int .i64 p, .any, .any, .any, .any, .any, .any, .any, .any, .any, .any, .any, .any, .any, .any, .any, .any, .any, .any, .any, .any, .any, .any, .any, .any, .any],[some ⟨false,66,4,true,l.map roE⟩,some box,some ⟨true,66,4,true,[PD]⟩,some ⟨true,66,4,true,[PD]⟩,some ⟨true,66,4,true,[roE (kxR ok l p)]⟩]⟩
def P1:Modes:=⟨[0,1,0,0,1,0,1,2,0,0,0,1,1,2,0,0,0,0,0,0,0,0,0,0,0,0,0,0,0,0,0,0,0,0,0,0,0,0,0],[0,1,2,3,4],[1,1,2,2,2],[],[]⟩
def Rl:Modes:=⟨[0,0,0,0,1,0,1,2,0,0,0,0,0,0,0,0,0,0,0,0,0,0,0,0,0,0,0,0,0,0,0,0,0,0,0,0,0,0,0],[0,1,2,3,4],[1,1,1,1,1],[],[]⟩
def lgH(fn:AV)(box:Blk)(ok:Ro→Bool)(l:List Ro):List Hint:=[.linv _ 0 (DD fn box ok l) (fun p=>p≤l.length) (fun p=>l.length+1-p) P1 P1 Rl (fun _=>[]) fun p=>
 [.fork [.dy, .cell (roE (at' l p)), .fork [.fork [.nw] [.nw]] [.fork [.fork [.nw] [.nw]] [.nw]]] []]]
def Nh(c d:BitVec 64):Blk:=⟨true,25,2,true,[.agg [.w64 c, .w64 d]]⟩

theorem Jm{ok:Ro→Bool}{l:List Ro}{p:Nat}(h1:kpX ok l p<0∨(at' l p).p.len>(kxR ok l p).p.len)(h2:ok (at' l p)=true):kxR ok l (p+1)=at' l p∧decide (kpX ok l (p+1)≥0)=true:=by
 have e:kpX ok l (p+1)=p:=by
  have d:kpX ok l (p+1)=if (decide (kpX ok l p<0)||decide (lnR (at' l p)>lnR (at' l (kpX ok l p).toNat)))&&ok (at' l p) then (p:Int) else kpX ok l p:=rfl
  rw[d,if_pos]
  rw[h2,Bool.and_true,Bool.or_eq_true,decide_eq_true_eq,decide_eq_true_eq]
  by_cases h:kpX ok l p<0
  ·exact .inl h
  ·refine .inr ?_
   have h1:=h1.resolve_left h
   unfold kxR at h1
   rw[if_neg h] at h1
   exact h1
 unfold kxR
 rw[e,if_neg (by omega)]
 exact⟨rfl,decide_eq_true (by omega)⟩

theorem Jo{ok:Ro→Bool}{l:List Ro}{p:Nat}(h:ok (at' l p)=false∨(kpX ok l p≥0∧¬(at' l p).p.len>(kxR ok l p).p.len)):kxR ok l (p+1)=kxR ok l p∧decide (kpX ok l (p+1)≥0)=decide (kpX ok l p≥0):=by
 have e:kpX ok l (p+1)=kpX ok l p:=by
  have d:kpX ok l (p+1)=if (decide (kpX ok l p<0)||decide (lnR (at' l p)>lnR (at' l (kpX ok l p).toNat)))&&ok (at' l p) then (p:Int) else kpX ok l p:=rfl
  rw[d,if_neg]
  rcases h with h| ⟨h1,h2⟩
  ·rw[h];simp
  ·have hn:¬kpX ok l p<0:=by omega
   unfold kxR at h2
   rw[if_neg hn] at h2
   have h2:¬lnR (at' l p)>lnR (at' l (kpX ok l p).toNat):=h2
   simp[hn,h2]
 unfold kxR
 rw[e]
 exact⟨rfl,rfl⟩

theorem On{ok:Ro→Bool}{l:List Ro}{o:Option Ro}(h:o=if kpX ok l l.length<0 then none else some (at' l (kpX ok l l.length).toNat)):kxR ok l l.length=roO o∧decide (kpX ok l l.length≥0)=o.isSome:=by
 subst h
 unfold kxR
 split
 ·rename_i h
  exact⟨rfl,decide_eq_false (by omega)⟩
 ·rename_i h
  exact⟨rfl,decide_eq_true (by omega)⟩

theorem pX(l:List Ro)(i:Nat)(hi:i≤l.length):List.take (0+(i-0)) ((l.take i).map roE)=(l.take i).map roE:=
 List.take_of_length_le (by rw[List.length_map,List.length_take];omega)

theorem FH(l:List Ro)(r:Ro)(i:Nat)(hi:i≤l.length):List.take (0+(i-0)+1) ((l.take i++[r]).map roE)=(l.take i++[r]).map roE:=
 List.take_of_length_le (by rw[List.length_map,List.length_append,List.length_take,List.length_cons,List.length_nil];omega)

theorem nZ(l:List Ro)(i:Nat):List.take ((l.map roE).length-i) (List.drop (0+i) (l.map roE))=(l.drop i).map roE:=by
 rw[Nat.zero_add,List.map_drop]
 exact List.take_of_length_le (by rw[List.length_drop];exact Nat.le_refl _)

theorem n8(l:List Ro)(i:Nat):([]:List AV)++List.take (i-0) (List.drop (0+0) (l.map roE))=(l.take i).map roE:=by
 rw[List.nil_append,Nat.sub_zero,Nat.add_zero,List.drop_zero,List.map_take]

noncomputable def m5:List (FuncId×Sx.Spec):=[(52,ey [pRo,none] sT)]

theorem D2(l:List Ro)(a b:BitVec 64)(k:Int)(r:AV):run m5 Tryz.prog 23 [.vsl 0 0 (l.map roE).length, .agg [.w64 a, .w64 b, .int .i64 k]] [some ⟨false,(pRo.getD (0,0)).1,(pRo.getD (0,0)).2,true,(l.map roE)⟩] [.fork [] [.dy, .cell (roE (at' l (plN l ⟨a,b,k⟩)))]] (eM (.v r))=
  (let p:=(0:Nat);let o:=(0:Int);let n:=List.map roE l;let j:=AV.w64 (BitVec.ofInt (64:Nat) o);let h:=AV.int IntKind.i64;let f:=List.length n;let e:=Pf.mk a b k;let i:=at' l (plN l e);let d:=AV.agg [AV.w64 (Ro.p i).1,AV.w64 (Ro.p i).2,h (Ro.p i).3,h i.2];let c:=List.take (f) (List.drop p n);let q:=deR (c);let m:= !Option.isSome (fdR q e);let g:=(↑(plN q e):Int);(p+f≤f∧c=List.map roE q∧tbR (128:Int) q=true∧(m=true→AV.tuple [AV.agg [j,j,h o,h o],AV.bool false]=r)∧(m=false→(o≤g∧g< (↑(f):Int))∧Blk.read Proofs.Tryz.prog (Blk.mk false (66:TypeId) (4:Nat) true n) (66:Nat) (p+Int.toNat g) p=some (d)∧AV.tuple [d,AV.bool true]=r))):=by kernel_rfl

theorem Bp:∀e∈m5,eJ Tryz.prog e.1 e.2:=by
 intro e he
 simp only[m5,List.mem_cons,List.not_mem_nil,or_false] at he
 rcases he with rfl
 ·exact qt

theorem He:eJ Tryz.prog 23 (ey [pRo,none] D0):=by
 refine eK (eS (l:=m5) Bp mixed noNG) fun l R hF=> ?_
 unfold D0 at hF
 split at hF
 ·rename_i r_l a b k
  obtain⟨hr_l,hl,hF⟩:=hF
  generalize deR r_l=l at hr_l hl hF
  subst hr_l
  refine⟨_,hF,rfl,[.fork [] [.dy, .cell (roE (at' l (plN l ⟨a,b,k⟩)))]], ?_⟩
  show run m5 Tryz.prog _ [.vsl 0 0 (l.map roE).length, .agg [.w64 a, .w64 b, .int .i64 k]] [some ⟨false,(pRo.getD (0,0)).1,(pRo.getD (0,0)).2,true,(l.map roE)⟩] _ _
  rw[D2];(conv=>zeta)
  have T:=gm.1 hl
  simp only[eT,iL]
  refine⟨by omega,trivial,hl,fun h=> ?_,fun h=> ?_⟩
  ·have h:(fdR l ⟨a,b,k⟩).isSome=false:=by simpa using h
   cases hf:fdR l ⟨a,b,k⟩ with
   |none=>rfl
   |some x=>rw[hf] at h;cases h
  ·have h:(fdR l ⟨a,b,k⟩).isSome=true:=by simpa using h
   obtain⟨h1,h2,_⟩:=rQ T h
   refine⟨⟨by omega,by rw[List.length_map];omega⟩,eL (k:=(plN l ⟨a,b,k⟩:Int)) (by omega) (by rw[List.length_map];omega) (il _), ?_⟩
   rw[h2];rfl
 ·exact hF.elim

noncomputable def m7:List (FuncId×Sx.Spec):=[(52,ey [pRo,none] sT),
 (90,qE)]

theorem D5(l:List Ro)(a b:BitVec 64)(k:Int)(F:List Ro→List AV)(es:List AV):run m7 Tryz.prog 24 [.vsl 0 0 (l.map roE).length, .agg [.w64 a, .w64 b, .int .i64 k]] [some ⟨false,(pRo.getD (0,0)).1,(pRo.getD (0,0)).2,true,(l.map roE)⟩] (gdH F l ⟨a,b,k⟩) (eM (.vrow 66 4 es))=
  (let G:=(140737488355328:Int);let E:=(4611686018427387904:Int);let y:=(32:Nat);let w:=(140737488355328:Nat);let v:=(9223372036854775807:Nat);let t:=(1:Nat);let r:=inRange IntKind.i64;let o:=List.map roE l;let m:=Pf.mk a b k;let n:=some (Blk.mk true (66:Nat) (4:Nat) true (F (drR l m)))=some (Blk.mk true (66:TypeId) (4:Nat) true es);let j:=(0:Int);let e:=(0:Nat);let d:=List.length o;let C:=List.take (d) (List.drop e o);let f:=deR (C);let H:=Option.isSome (fdR f m);let s:=(↑(plN f m):Int);let c:=plN l m;let D:=d-c;let B:=s=(↑(c):Int);let u:=(↑D:Int);let q:=c-e;let p:=F (List.take (c) l);let I:=e+q≤List.length (p);let x:=[]++List.take q (List.drop (e+e) o)=p;let i:=(e+q)*y≤w∧e+q≤v∧e+e+q≤d∧e≤List.length ([]:List AV);let h:=d-(c+t);let z:=(↑h:Int);let g:=(↑q:Int);let A:=Decidable.decide (j+g<j)=false;(e+d≤d∧C=List.map roE f∧tbR (128:Int) f=true∧(H=true→B∧c<d+t∧r (s+(1:Int))∧s+(1:Int)=(↑(c+t):Int)∧c+t<d+t∧r (j+g)∧A∧r (j+g+z)∧Decidable.decide (j+g+z<j)=false∧(j≤j+g+z∧(j+g+z)*(↑y:Int)≤G∧j+g+z≤E)∧i∧x∧((e+q+h)*y≤w∧e+q+h≤v∧e+(c+t)+h≤d∧I)∧List.take (e+q) (p)++List.take h (List.drop (e+(c+t)) o)=F (drR l m)∧e+q+h=List.length es∧n)∧(H=false→B∧c<d+t∧B∧c<d+t∧r (j+g)∧A∧r (j+g+u)∧Decidable.decide (j+g+u<j)=false∧(j≤j+g+u∧(j+g+u)*(↑y:Int)≤G∧j+g+u≤E)∧i∧x∧((e+q+D)*y≤w∧e+q+D≤v∧e+c+D≤d∧I)∧List.take (e+q) (p)++List.take D (List.drop (e+c) o)=F (drR l m)∧e+q+D=List.length es∧n))):=by kernel_rfl

theorem Br:∀e∈m7,eJ Tryz.prog e.1 e.2:=by
 intro e he
 simp only[m7,List.mem_cons,List.not_mem_nil,or_false] at he
 rcases he with rfl|rfl
 ·exact qt
 ·exact A5

theorem Hg:eJ Tryz.prog 24 (ey [pRo,none] D4):=by
 refine eK (eS (l:=m7) Br mixed noNG) fun l R hF=> ?_
 unfold D4 at hF
 split at hF
 ·rename_i r_l a b k
  obtain⟨hr_l,hl,hF⟩:=hF
  generalize deR r_l=l at hr_l hl hF
  subst hr_l
  refine⟨_,hF,trivial,(gdH (List.map roE) l ⟨a,b,k⟩), ?_⟩
  show run m7 Tryz.prog _ [.vsl 0 0 (l.map roE).length, .agg [.w64 a, .w64 b, .int .i64 k]] [some ⟨false,(pRo.getD (0,0)).1,(pRo.getD (0,0)).2,true,(l.map roE)⟩] _ _
  rw[D5];(conv=>zeta)
  have T:=gm.1 hl
  have hm:=T.most
  have hlen:(l.map roE).length=l.length:=List.length_map _
  have hpl:=(od ⟨a,b,k⟩ l).1
  simp only[eT,iL]
  have hd:=Hr T ⟨a,b,k⟩
  unfold bhN at hd
  refine⟨by omega,trivial,hl,fun h=> ?_,fun h=> ?_⟩
  ·rw[h,if_pos rfl] at hd
   have hi:=(rQ T h).1
   generalize plN l ⟨a,b,k⟩=i at*
   have hdm:((drR l ⟨a,b,k⟩).map roE).length=(drR l ⟨a,b,k⟩).length:=List.length_map _
   have hdl:(drR l ⟨a,b,k⟩).length=i+(l.length-(i+1)):=by rw[hd,List.length_append,List.length_take,List.length_drop];omega
   refine⟨by trivial,by omega,inR (by omega) (by omega),by trivial,by omega,inR (by omega) (by omega),decide_eq_false (by omega),inR (by omega) (by omega),decide_eq_false (by omega),⟨by omega,by omega,by omega⟩,⟨by omega,by omega,by omega,Nat.zero_le _⟩,n8 l i,⟨by omega,by omega,by omega,by rw[List.length_map,List.length_take];omega⟩, ?_,by omega,by trivial⟩
   rw[pX l i (by omega),nZ,hd,List.map_append]
  ·rw[h,if_neg (by simp)] at hd
   generalize plN l ⟨a,b,k⟩=i at*
   have hdm:((drR l ⟨a,b,k⟩).map roE).length=(drR l ⟨a,b,k⟩).length:=List.length_map _
   have hdl:(drR l ⟨a,b,k⟩).length=i+(l.length-i):=by rw[hd,List.length_append,List.length_take,List.length_drop];omega
   refine⟨by trivial,by omega,by trivial,by omega,inR (by omega) (by omega),decide_eq_false (by omega),inR (by omega) (by omega),decide_eq_false (by omega),⟨by omega,by omega,by omega⟩,⟨by omega,by omega,by omega,Nat.zero_le _⟩,n8 l i,⟨by omega,by omega,by omega,by rw[List.length_map,List.length_take];omega⟩, ?_,by omega,by trivial⟩
   rw[pX l i (by omega),nZ,hd,List.map_append]
 ·exact hF.elim

noncomputable def pG:List (FuncId×Sx.Spec):=[(52,ey [pRo,none] sT),
 (90,qE)]

theorem G5(l:List Ro)(a b:BitVec 64)(k j:Int)(F:List Ro→List AV)(es:List AV):run pG Tryz.prog 22 [.vsl 0 0 (l.map roE).length, .agg [.w64 a, .w64 b, .int .i64 k, .int .i64 j]] [some ⟨false,(pRo.getD (0,0)).1,(pRo.getD (0,0)).2,true,(l.map roE)⟩] (gpH F l ⟨⟨a,b,k⟩,j⟩) (eM (.vrow 66 4 es))=
  (let P:=(140737488355328:Int);let N:=(4611686018427387904:Int);let C:=(32:Nat);let A:=(140737488355328:Nat);let x:=(9223372036854775807:Nat);let w:=List.map roE l;let u:=inRange IntKind.i64;let q:=Pf.mk a b k;let E:=F (ptR l (Ro.mk q j));let r:=some (Blk.mk true (66:Nat) (4:Nat) true (E))=some (Blk.mk true (66:TypeId) (4:Nat) true es);let p:=[AV.agg [AV.w64 a,AV.w64 b,AV.int IntKind.i64 k,AV.int IntKind.i64 j]];let n:=(0:Int);let g:=(1:Nat);let s:=(↑g:Int);let e:=(0:Nat);let d:=List.length w;let L:=List.take (d) (List.drop e w);let f:=deR (L);let R:=Option.isSome (fdR f q);let z:=(↑(plN f q):Int);let c:=plN l q;let M:=d-c;let J:=z=(↑(c):Int);let B:=(↑M:Int);let y:=F (List.take (c) l);let v:=d-(c+g);let H:=(↑v:Int);let t:=c-e;let D:=[]++List.take t (List.drop (e+e) w)=y;let o:=(e+t)*C≤A∧e+t≤x∧e+e+t≤d∧e≤List.length ([]:List AV);let m:=F (List.take (c) l++[Ro.mk q j]);let Q:=List.take (e+t+g) (m);let O:=e+t+g≤List.length (m);let K:=List.take (e+t) (y)++p=m;let i:=(↑t:Int);let I:=Decidable.decide (n+i<n)=false;let G:=Decidable.decide (n+i+s<n)=false;let h:=(e+t+g)*C≤A∧e+t+g≤x∧e+g≤List.length p∧e+t≤List.length (y);(e+d≤d∧L=List.map roE f∧tbR (128:Int) f=true∧(R=true→J∧c<d+g∧u (z+(1:Int))∧z+(1:Int)=(↑(c+g):Int)∧c+g<d+g∧u (n+i)∧I∧u (n+i+s)∧G∧u (n+i+s+H)∧Decidable.decide (n+i+s+H<n)=false∧(n≤n+i+s+H∧(n+i+s+H)*(↑C:Int)≤P∧n+i+s+H≤N)∧o∧D∧h∧K∧((e+t+g+v)*C≤A∧e+t+g+v≤x∧e+(c+g)+v≤d∧O)∧Q++List.take v (List.drop (e+(c+g)) w)=E∧e+t+g+v=List.length es∧r)∧(R=false→J∧c<d+g∧J∧c<d+g∧u (n+i)∧I∧u (n+i+s)∧G∧u (n+i+s+B)∧Decidable.decide (n+i+s+B<n)=false∧(n≤n+i+s+B∧(n+i+s+B)*(↑C:Int)≤P∧n+i+s+B≤N)∧o∧D∧h∧K∧((e+t+g+M)*C≤A∧e+t+g+M≤x∧e+c+M≤d∧O)∧Q++List.take M (List.drop (e+c) w)=E∧e+t+g+M=List.length es∧r))):=by kernel_rfl

theorem DO:∀e∈pG,eJ Tryz.prog e.1 e.2:=by
 intro e he
 simp only[pG,List.mem_cons,List.not_mem_nil,or_false] at he
 rcases he with rfl|rfl
 ·exact qt
 ·exact A5

theorem JC:eJ Tryz.prog 22 (ey [pRo,none] JB):=by
 refine eK (eS (l:=pG) DO mixed noNG) fun l R hF=> ?_
 unfold JB at hF
 split at hF
 ·rename_i r_l a b k j
  obtain⟨hr_l,hl,hF⟩:=hF
  generalize deR r_l=l at hr_l hl hF
  subst hr_l
  obtain⟨hr,hF⟩:=hF
  refine⟨_,hF,trivial,(gpH (List.map roE) l ⟨⟨a,b,k⟩,j⟩), ?_⟩
  show run pG Tryz.prog _ [.vsl 0 0 (l.map roE).length, .agg [.w64 a, .w64 b, .int .i64 k, .int .i64 j]] [some ⟨false,(pRo.getD (0,0)).1,(pRo.getD (0,0)).2,true,(l.map roE)⟩] _ _
  rw[G5];(conv=>zeta)
  have T:=gm.1 hl
  have hm:=T.most
  have hlen:(l.map roE).length=l.length:=List.length_map _
  have hpl:=(od ⟨a,b,k⟩ l).1
  simp only[eT,iL]
  have hd:=GC T ⟨⟨a,b,k⟩,j⟩
  dsimp only at hd
  unfold bhN at hd
  refine⟨by omega,trivial,hl,fun h=> ?_,fun h=> ?_⟩
  ·rw[h,if_pos rfl] at hd
   have hi:=(rQ T h).1
   generalize plN l ⟨a,b,k⟩=i at*
   have hdm:((ptR l ⟨⟨a,b,k⟩,j⟩).map roE).length=(ptR l ⟨⟨a,b,k⟩,j⟩).length:=List.length_map _
   have hdl:(ptR l ⟨⟨a,b,k⟩,j⟩).length=i+1+(l.length-(i+1)):=by rw[hd,List.length_append,List.length_append,List.length_take,List.length_drop,List.length_cons,List.length_nil];omega
   refine⟨by trivial,by omega,inR (by omega) (by omega),by trivial,by omega,inR (by omega) (by omega),decide_eq_false (by omega),inR (by omega) (by omega),decide_eq_false (by omega),inR (by omega) (by omega),decide_eq_false (by omega),⟨by omega,by omega,by omega⟩,⟨by omega,by omega,by omega,Nat.zero_le _⟩,n8 l i,⟨by omega,by omega,Nat.le_refl _,by rw[List.length_map,List.length_take];omega⟩, ?_,⟨by omega,by omega,by omega,by rw[List.length_map,List.length_append,List.length_take,List.length_cons,List.length_nil];omega⟩, ?_,by omega,by trivial⟩
   ·rw[pX l i (by omega),List.map_append];rfl
   ·rw[FH l _ i (by omega),nZ,hd];exact List.map_append.symm
  ·rw[h,if_neg (by simp)] at hd
   generalize plN l ⟨a,b,k⟩=i at*
   have hdm:((ptR l ⟨⟨a,b,k⟩,j⟩).map roE).length=(ptR l ⟨⟨a,b,k⟩,j⟩).length:=List.length_map _
   have hdl:(ptR l ⟨⟨a,b,k⟩,j⟩).length=i+1+(l.length-i):=by rw[hd,List.length_append,List.length_append,List.length_take,List.length_drop,List.length_cons,List.length_nil];omega
   refine⟨by trivial,by omega,by trivial,by omega,inR (by omega) (by omega),decide_eq_false (by omega),inR (by omega) (by omega),decide_eq_false (by omega),inR (by omega) (by omega),decide_eq_false (by omega),⟨by omega,by omega,by omega⟩,⟨by omega,by omega,by omega,Nat.zero_le _⟩,n8 l i,⟨by omega,by omega,Nat.le_refl _,by rw[List.length_map,List.length_take];omega⟩, ?_,⟨by omega,by omega,by omega,by rw[List.length_map,List.length_append,List.length_take,List.length_cons,List.length_nil];omega⟩, ?_,by omega,by trivial⟩
   ·rw[pX l i (by omega),List.map_append];rfl
   ·rw[FH l _ i (by omega),nZ,hd];exact List.map_append.symm
 ·exact hF.elim

noncomputable def m9:List (FuncId×Sx.Spec):=[(82,ey [none,none] x8)]

theorem Ea(l:List Ro)(c d:BitVec 64)(r:AV):run m9 Tryz.prog 42 [.vsl 0 0 (l.map roE).length, .agg [.w64 c, .w64 d]] [some ⟨false,(pRo.getD (0,0)).1,(pRo.getD (0,0)).2,true,(l.map roE)⟩] (lgH Ql (Nh c d) (fun x=>mtP x.p c d) l) (eM (.v r))=
  (let ax:=AV.bool;let au:=AV.func (Fn.func (81:FuncId)) [];let ar:=AV.agg;let al:=AV.w64;let aj:=(0:Int);let av:=al (BitVec.ofInt (64:Nat) aj);let af:=List.length l;let ad:=Blk.mk true (nat_lit 66) (4:Nat) true;let ab:=Blk.mk true (25:TypeId) (2:Nat) true [ar [al c,al d]];let aa:=Blk.mk false (66:TypeId) (4:Nat) true (List.map roE l);let Y:=List.length (List.map roE l);let an:=(↑Y:Int);let X:=(1:Nat);let W:=(0:Nat);let az:=[AV.ptr (W+X) W W true];let aw:=al (BitVec.ofNat (64:Nat) W);let aq:=AV.vsl W W Y;let ai:=AV.ptr (W+X+X+X) W W true;let ah:=AV.ptr (W+X+X+X+X) W W true;let ag:=au az;let V:=AV.int IntKind.i64;let Z:=ad [ar [av,av,V aj,V aj]];let U:=AV.any;let T:=DD (au [AV.ptr X W W true]) ab;let R:=ad [ar [aw,aw,V aj,V aj]];((St.mk [U,AV.func (Fn.func (81:Nat)) [] az,U,U,ai,U,ah,ax false,U,U,U,aq,V an,V aj,U,U,U,U,U,U,U,U,U,U,U,U,U,U,U,U,U,U,U,U,U,U,U,U,U] [some aa,some (Blk.mk true (25:Nat) (2:Nat) true [ar [al c,al d]]),some Z,some Z,some Z]=T (fun (a:Ro)=>mtP a.1 c d) l W∧Nat.le W (af))∧∀(b:Nat),let ap:=(↑b:Int);let ay:=Decidable.decide (ap<an);let ae:=ap+(1:Int);let ak:=inRange IntKind.i64 ae;let ac:=Ro.p (at' l b);let ao:=ar [al ac.1,al ac.2,V ac.3,V (at' l b).2];let am:=matchB ac.1 ac.2 ac.3 c d;let S:=St.mk [U,ag,U,U,ai,U,ah,ax true,U,U,U,aq,V an,V ae,U,U,U,U,U,U,U,U,U,U,U,U,U,U,U,U,U,U,U,U,U,U,U,U,U] [some aa,some ab,some R,some R,some (ad [ao])];Nat.le b (af)→(ay=true→(aj≤ap∧ap<an)∧Blk.read Proofs.Tryz.prog aa (66:Nat) (W+Int.toNat ap) W=some (ao)∧((!Decidable.decide (kpX (fun (e:Ro)=>mtP e.1 c d) l b≥aj))=true→(am=true→ak∧∃(f:Nat),S=T (fun (g:Ro)=>mtP g.1 c d) l f∧Nat.le f (af)∧af+X-f<af+X-b)∧(am=false→ak∧∃(h:Nat),St.mk [U,ag,U,U,ai,U,ah,ax (Decidable.decide (kpX (fun (i:Ro)=>mtP i.1 c d) l b≥aj)),U,U,U,aq,V an,V ae,U,U,U,U,U,U,U,U,U,U,U,U,U,U,U,U,U,U,U,U,U,U,U,U,U] [some aa,some ab,some R,some R,some (ad [ar [al (Ro.p (kxR (fun (j:Ro)=>mtP (Ro.p j) c d) l b)).1,al (Ro.p (kxR (fun (k:Ro)=>mtP (Ro.p k) c d) l b)).2,V (Ro.p (kxR (fun (m:Ro)=>mtP (Ro.p m) c d) l b)).3,V (kxR (fun (n:Ro)=>mtP (Ro.p n) c d) l b).2]])]=T (fun (o:Ro)=>mtP o.1 c d) l h∧Nat.le h (af)∧af+X-h<af+X-b))∧((!Decidable.decide (kpX (fun (q:Ro)=>mtP q.1 c d) l b≥aj))=false→(Decidable.decide (ac.3>(Ro.p (kxR (fun (s:Ro)=>mtP (Ro.p s) c d) l b)).3)=true→(am=true→ak∧∃(t:Nat),S=T (fun (u:Ro)=>mtP u.1 c d) l t∧Nat.le t (af)∧af+X-t<af+X-b)∧(am=false→ak∧∃(w:Nat),St.mk [U,ag,U,U,ai,U,ah,ax (Decidable.decide (kpX (fun (y:Ro)=>mtP y.1 c d) l b≥aj)),U,U,U,aq,V an,V ae,U,U,U,U,U,U,U,U,U,U,U,U,U,U,U,U,U,U,U,U,U,U,U,U,U] [some aa,some ab,some R,some R,some (ad [ar [al (Ro.p (kxR (fun (z:Ro)=>mtP (Ro.p z) c d) l b)).1,al (Ro.p (kxR (fun (A:Ro)=>mtP (Ro.p A) c d) l b)).2,V (Ro.p (kxR (fun (B:Ro)=>mtP (Ro.p B) c d) l b)).3,V (kxR (fun (C:Ro)=>mtP (Ro.p C) c d) l b).2]])]=T (fun (D:Ro)=>mtP D.1 c d) l w∧Nat.le w (af)∧af+X-w<af+X-b))∧(Decidable.decide (ac.3>(Ro.p (kxR (fun (E:Ro)=>mtP (Ro.p E) c d) l b)).3)=false→ak∧∃(F:Nat),St.mk [U,ag,U,U,ai,U,ah,ax (Decidable.decide (kpX (fun (G:Ro)=>mtP G.1 c d) l b≥aj)),U,U,U,aq,V an,V ae,U,U,U,U,U,U,U,U,U,U,U,U,U,U,U,U,U,U,U,U,U,U,U,U,U] [some aa,some ab,some R,some R,some (ad [ar [al (Ro.p (kxR (fun (H:Ro)=>mtP (Ro.p H) c d) l b)).1,al (Ro.p (kxR (fun (I:Ro)=>mtP (Ro.p I) c d) l b)).2,V (Ro.p (kxR (fun (J:Ro)=>mtP (Ro.p J) c d) l b)).3,V (kxR (fun (K:Ro)=>mtP (Ro.p K) c d) l b).2]])]=T (fun (L:Ro)=>mtP L.1 c d) l F∧Nat.le F (af)∧af+X-F<af+X-b)))∧(ay=false→AV.tuple [ar [al (Ro.p (kxR (fun (M:Ro)=>mtP (Ro.p M) c d) l b)).1,al (Ro.p (kxR (fun (N:Ro)=>mtP (Ro.p N) c d) l b)).2,V (Ro.p (kxR (fun (O:Ro)=>mtP (Ro.p O) c d) l b)).3,V (kxR (fun (P:Ro)=>mtP (Ro.p P) c d) l b).2],ax (Decidable.decide (kpX (fun (Q:Ro)=>mtP Q.1 c d) l b≥aj))]=r))):=by kernel_rfl

theorem Bv:∀e∈m9,eJ Tryz.prog e.1 e.2:=by
 intro e he
 simp only[m9,List.mem_cons,List.not_mem_nil,or_false] at he
 rcases he with rfl
 ·exact vR

theorem Hi:eJ Tryz.prog 42 (ey [pRo,none] D9):=by
 refine eK (eS (l:=m9) Bv mixed noNG) fun l R hF=> ?_
 unfold D9 at hF
 split at hF
 ·rename_i r_l c d
  obtain⟨hr_l,hl,hF⟩:=hF
  generalize deR r_l=l at hr_l hl hF
  subst hr_l
  refine⟨_,hF,rfl,(lgH Ql (Nh c d) (fun x=>mtP x.p c d) l), ?_⟩
  show run m9 Tryz.prog _ [.vsl 0 0 (l.map roE).length, .agg [.w64 c, .w64 d]] [some ⟨false,(pRo.getD (0,0)).1,(pRo.getD (0,0)).2,true,(l.map roE)⟩] _ _
  rw[Ea];(conv=>zeta)
  have T:=gm.1 hl
  have hm:=T.most
  refine⟨⟨rfl,Nat.zero_le _⟩, ?_⟩
  intro p hp0
  have hp0:p≤l.length:=hp0
  refine⟨fun hlt=> ?_,fun hge=> ?_⟩
  ·have hp:p<l.length:=by simp only[decide_eq_true_eq,List.length_map] at hlt;omega
   have B:0≤(p:Int)∧(p:Int)< ((l.map roE).length:Int):=by rw[List.length_map];omega
   have i1:inRange .i64 ((p:Int)+1):=inR (by omega) (by omega)
   refine⟨B,eL B.1 B.2 (il _),fun hn=>⟨fun hk=> ?_,fun hk=> ?_⟩,fun hn=>⟨fun hg=>⟨fun hk=> ?_,fun hk=> ?_⟩,fun hg=> ?_⟩⟩
   ·have hn:¬kpX (fun x=>mtP x.p c d) l p≥0:=by simpa using hn
    have e:=Jm (ok:=(fun x=>mtP x.p c d)) (.inl (by omega)) hk
    exact⟨i1,p+1,by unfold DD;rw[e.1,e.2];rfl,hp,by omega⟩
   ·have e:=Jo (ok:=(fun x=>mtP x.p c d)) (.inl hk)
    exact⟨i1,p+1,by unfold DD;rw[e.1,e.2];rfl,hp,by omega⟩
   ·have e:=Jm (ok:=(fun x=>mtP x.p c d)) (.inr (of_decide_eq_true hg)) hk
    exact⟨i1,p+1,by unfold DD;rw[e.1,e.2];rfl,hp,by omega⟩
   ·have e:=Jo (ok:=(fun x=>mtP x.p c d)) (.inl hk)
    exact⟨i1,p+1,by unfold DD;rw[e.1,e.2];rfl,hp,by omega⟩
   ·have hn:kpX (fun x=>mtP x.p c d) l p≥0:=by simpa using hn
    have e:=Jo (ok:=(fun x=>mtP x.p c d)) (.inr ⟨hn,of_decide_eq_false hg⟩)
    exact⟨i1,p+1,by unfold DD;rw[e.1,e.2];rfl,hp,by omega⟩
  ·have hp:p=l.length:=by simp only[decide_eq_false_iff_not,List.length_map] at hge;omega
   subst hp
   have e:=On (ok:=(fun x=>mtP x.p c d)) (Kt T (nk _ _ _ _))
   rw[e.1,e.2]
 ·exact hF.elim

noncomputable def mT:List (FuncId×Sx.Spec):=[(42,ey [pRo,none] D9)]

theorem DL(l:List Ro)(c d:BitVec 64)(r:AV):run mT Tryz.prog 13 [.vsl 0 0 (l.map roE).length, .agg [.w64 c, .w64 d]] [some ⟨false,(pRo.getD (0,0)).1,(pRo.getD (0,0)).2,true,(l.map roE)⟩] [] (eM (.v r))=
  ((0:Nat)+List.length (List.map roE l)≤List.length (List.map roE l)∧List.take (List.length (List.map roE l)) (List.drop (0:Nat) (List.map roE l))=List.map roE (deR (List.take (List.length (List.map roE l)) (List.drop (0:Nat) (List.map roE l))))∧tbR (128:Int) (deR (List.take (List.length (List.map roE l)) (List.drop (0:Nat) (List.map roE l))))=true∧AV.int IntKind.i64 (roO (bsR (deR (List.take (List.length (List.map roE l)) (List.drop (0:Nat) (List.map roE l)))) c d)).2=r):=by kernel_rfl

theorem A2:∀e∈mT,eJ Tryz.prog e.1 e.2:=by
 intro e he
 simp only[mT,List.mem_cons,List.not_mem_nil,or_false] at he
 rcases he with rfl
 ·exact Hi

theorem wg:eJ Tryz.prog 13 (ey [pRo,none] yn):=by
 refine eK (eS (l:=mT) A2 mixed noNG) fun l R hF=> ?_
 unfold yn at hF
 split at hF
 ·rename_i r_l c d
  obtain⟨hr_l,hl,hF⟩:=hF
  generalize deR r_l=l at hr_l hl hF
  subst hr_l
  refine⟨_,hF,rfl,[], ?_⟩
  show run mT Tryz.prog _ [.vsl 0 0 (l.map roE).length, .agg [.w64 c, .w64 d]] [some ⟨false,(pRo.getD (0,0)).1,(pRo.getD (0,0)).2,true,(l.map roE)⟩] _ _
  rw[DL]
  simp only[eT,iL]
  refine⟨by omega,trivial,hl, ?_⟩
  unfold tlR
  cases hb:bsR l c d<;>rfl
 ·exact hF.elim

end Go.Proofs.YtcabofadpheomaaGreat.L1
end

section
namespace Go.Proofs.YtcabofadpheomaaGreat.L1
open Go.Sx Go.Sx.M

theorem Iz(x:Pf):e7 Tryz.prog 64 (pfE x).cells 0=some (pfE x):=by kernel_rfl

def mxG(l:List Ro):Nat→Int
 |0=>0
 |n+1=>if ((skR l (n+1)).length:Int)>mxG l n then ((skR l (n+1)).length:Int) else mxG l n

theorem te(l:List Ro):∀n,0≤mxG l n∧(∀i,i<n→((opR l i).length:Int)≤mxG l n)∧(mxG l n=0∨∃i,i<n∧mxG l n=((opR l i).length:Int))
 |0=>⟨Int.le_refl _,fun i hi=>by omega, .inl rfl⟩
 |n+1=>by
  obtain⟨h0,h1,h2⟩:=te l n
  have e:(skR l (n+1)).length=(opR l n).length:=by unfold skR;rw[if_neg (by omega),List.length_map,Nat.add_sub_cancel]
  unfold mxG
  rw[e]
  split
  ·refine⟨by omega,fun i hi=> ?_, .inr ⟨n,by omega,rfl⟩⟩
   rcases Nat.lt_or_eq_of_le (Nat.le_of_lt_succ hi) with h|rfl
   ·have:=h1 i h;omega
   ·omega
  ·refine⟨h0,fun i hi=> ?_, ?_⟩
   ·rcases Nat.lt_or_eq_of_le (Nat.le_of_lt_succ hi) with h|rfl
    ·exact h1 i h
    ·omega
   ·rcases h2 with h2| ⟨i,hi,h2⟩
    ·exact .inl h2
    ·exact .inr ⟨i,by omega,h2⟩

theorem Od{w:Int}{l:List Ro}(h:TB w l){n:Nat}(hn:n≤l.length):0≤mxG l n∧mxG l n≤256:=by
 obtain⟨h0,_,h2⟩:=te l n
 refine⟨h0, ?_⟩
 rcases h2 with h2| ⟨i,hi,h2⟩
 ·omega
 ·have:=IF h (show i<l.length by omega)
  have:=h.most
  omega

def qH(F:List Pf→List AV)(l:List Ro)(p:Nat):St:=
 ⟨[.any, .any, .any, .vsl 1 0 (skR l p).length, .int .i64 (mxG l p), .any, .any, .vsl 0 0 (l.map roE).length, .int .i64 (l.map roE).length, .int .i64 p, .any, .any, .any, .any, .any, .any, .any, .any, .any, .any, .any, .any, .any, .any, .any, .any, .any, .any, .any, .any, .any, .any, .any, .any, .any, .any, .any, .any, .any, .any, .any, .any, .any, .any],[some ⟨false,66,4,true,l.map roE⟩,some ⟨true,64,3,true,F (skR l p)⟩]⟩
def JK(F:List Pf→List AV)(l:List Ro)(p k:Nat):St:=
 ⟨[.any, .any, .any, .vsl 1 0 k, .int .i64 (mxG l p), .any, .ptr 2 0 0 true, .vsl 0 0 (l.map roE).length, .int .i64 (l.map roE).length, .int .i64 p, .any, .any, .any, .any, .any, .any, .any, .any, .any, .any, .any, .any, .any, .any, .any, .any, .any, .any, .any, .any, .any, .any, .any, .any, .any, .any, .any, .any, .any, .any, .any, .any, .any, .any],[some ⟨false,66,4,true,l.map roE⟩,some ⟨true,64,3,true,F (skR l p)⟩,some ⟨true,66,4,true,[roE (at' l p)]⟩]⟩
def Oy:Modes:=⟨[0,0,0,1,2,0,0,1,1,2,0,0,0,0,0,0,0,0,0,0,0,0,0,0,0,0,0,0,0,0,0,0,0,0,0,0,0,0,0,0,0,0,0,0],[],[],[],[(3,64,3)]⟩
def P7:Modes:=⟨[0,0,0,1,1,0,0,1,1,1,0,0,0,0,0,0,0,0,0,0,0,0,0,0,0,0,0,0,0,0,0,0,0,0,0,0,0,0,0,0,0,0,0,0],[],[],[],[]⟩
def Oz:Modes:=⟨[0,0,0,0,1,0,0,0,0,0,0,0,0,0,0,0,0,0,0,0,0,0,0,0,0,0,0,0,0,0,0,0,0,0,0,0,0,0,0,0,0,0,0,0],[],[],[],[]⟩
def gcN:Modes:=⟨[0,0,0,1,1,0,1,1,1,1,0,0,0,0,0,0,0,0,0,0,0,0,0,0,0,0,0,0,0,0,0,0,0,0,0,0,0,0,0,0,0,0,0,0],[],[],[],[]⟩
def LS(l:List Ro)(p k:Nat):Prop:=k≤(skR l p).length∧∀t,k≤t→t< (skR l p).length→cvP (at' (skR l p) t) (at' l p).p=false
def M6(F:List Pf→List AV)(l:List Ro):List Hint:=[.linv _ 0 (qH F l) (fun p=>p≤l.length) (fun p=>l.length+1-p) Oy P7 Oz (fun _=>[]) fun p=>
 [.fork [.dy, .cell (roE (at' l p)), .linv _ (skR l p).length (JK F l p) (LS l p) (fun k=>k) gcN gcN gcN (fun _=>[.rows (F (skR l (p+1))), .nw]) fun k=>
  [.fork [.nw, .ix (k-1), .cell (pfE (at' (skR l p) (k-1))), .fork [.nw, .ix (k-1)] []] []]] []]]

noncomputable def ll:List (FuncId×Sx.Spec):=[(53,ey [none,none] rS)]

theorem Bu(l:List Ro)(F:List Pf→List AV)(r:AV):run ll Tryz.prog 26 [.vsl 0 0 (l.map roE).length] [some ⟨false,(pRo.getD (0,0)).1,(pRo.getD (0,0)).2,true,(l.map roE)⟩] (M6 F l) (eM (.v r))=
  (let J:=Blk.mk true;let G:=(0:Int);let C:=(1:Int);let A:=inRange IntKind.i64;let w:=List.length l;let s:=J (64:TypeId) (3:Nat) true;let o:=(1:Nat);let n:=(0:Nat);let L:=AV.vsl (n+o);let K:=AV.ptr (n+o+o) n n true;let m:=List.length (List.map roE l);let H:=AV.vsl n n m;let B:=(↑m:Int);let j:=Blk.mk false (66:TypeId) (4:Nat) true (List.map roE l);let h:=AV.int IntKind.i64;let g:=AV.any;((St.mk [g,g,g,AV.vsl (List.length [some j]) n n,h G,g,g,H,h B,h G,g,g,g,g,g,g,g,g,g,g,g,g,g,g,g,g,g,g,g,g,g,g,g,g,g,g,g,g,g,g,g,g,g,g] ([some j]++[some (s [])])=qH F l n∧Nat.le n (w))∧∀(a:Nat),let z:=skR l a;let I:=List.length z;let x:=(↑a:Int);let M:=Decidable.decide (x<B);let i:=Ro.p (at' l a);let E:=[AV.agg [AV.w64 i.1,AV.w64 i.2,h i.3]];let t:=AV.agg [AV.w64 i.1,AV.w64 i.2,h i.3,h (at' l a).2];Nat.le a (w)→(M=true→(G≤x∧x<B)∧Blk.read Proofs.Tryz.prog j (66:Nat) (n+Int.toNat x) n=some (t)∧(St.mk [g,g,g,L n I,h (mxG l a),g,K,H,h B,h x,g,g,g,g,g,g,g,g,g,g,g,g,g,g,g,g,g,g,g,g,g,g,g,g,g,g,g,g,g,g,g,g,g,g] [some j,some (s (F z)),some (J (nat_lit 66) (4:Nat) true [t])]=JK F l a I∧LS l a I)∧∀(b:Nat),let D:=(↑b:Int);let O:=D-C=(↑(b-o):Int);let N:=Decidable.decide (D>G);let u:=List.take b (F z)++E=F (skR l (a+o));let q:=(b+o)*(24:Nat)≤(140737488355328:Nat)∧b+o≤(9223372036854775807:Nat)∧n+o≤List.length E∧b≤List.length (F z);let k:=at' z (b-o);let y:= !(Decidable.decide (k.3≤i.3)&&matchB k.1 k.2 k.3 i.1 i.2);let f:=St.mk [g,g,g,L n (b+o),h (if (↑(b+o):Int)>mxG l a then (↑(b+o):Int) else mxG l a),g,g,H,h B,h (x+C),g,g,g,g,g,g,g,g,g,g,g,g,g,g,g,g,g,g,g,g,g,g,g,g,g,g,g,g,g,g,g,g,g,g] [some j,some (J (64:Nat) (3:Nat) true (F (skR l (a+o))))];LS l a b→(N=true→A (D-C)∧O∧b-o<b∧Blk.read Proofs.Tryz.prog (s (F z)) (64:Nat) (n+(b-o)) n=some (AV.agg [AV.w64 k.1,AV.w64 k.2,h k.3])∧(y=true→A (D-C)∧O∧b-o<b+o∧∃(c:Nat),St.mk [g,g,g,L (n+n) (b-o-n),h (mxG l a),g,K,H,h B,h x,g,g,g,g,g,g,g,g,g,g,g,g,g,g,g,g,g,g,g,g,g,g,g,g,g,g,g,g,g,g,g,g,g,g] [some j,some (s (F z)),some (J (66:TypeId) (4:Nat) true [t])]=JK F l a c∧LS l a c∧c<b)∧(y=false→q∧u∧A (x+C)∧∃(d:Nat),f=qH F l d∧Nat.le d (w)∧w+o-d<w+o-a))∧(N=false→q∧u∧A (x+C)∧∃(e:Nat),f=qH F l e∧Nat.le e (w)∧w+o-e<w+o-a))∧(M=false→h (mxG l a)=r))):=by kernel_rfl

theorem yG:∀e∈ll,eJ Tryz.prog e.1 e.2:=by
 intro e he
 simp only[ll,List.mem_cons,List.not_mem_nil,or_false] at he
 rcases he with rfl
 ·exact sZ

theorem D8:eJ Tryz.prog 26 (ey [pRo] yF):=by
 refine eK (eS (l:=ll) yG mixed noNG) fun l R hF=> ?_
 unfold yF at hF
 split at hF
 ·rename_i r_l
  obtain⟨hr_l,hl,hF⟩:=hF
  generalize deR r_l=l at hr_l hl hF
  subst hr_l
  refine⟨_,hF,rfl,(M6 (List.map pfE) l), ?_⟩
  show run ll Tryz.prog _ [.vsl 0 0 (l.map roE).length] [some ⟨false,(pRo.getD (0,0)).1,(pRo.getD (0,0)).2,true,(l.map roE)⟩] _ _
  rw[Bu];(conv=>zeta)
  have T:=gm.1 hl
  have hm:=T.most
  refine⟨⟨rfl,Nat.zero_le _⟩, ?_⟩
  intro p hp0
  have hp0:p≤l.length:=hp0
  refine⟨fun hlt=> ?_,fun hge=> ?_⟩
  ·have hp:p<l.length:=by simp only[decide_eq_true_eq,List.length_map] at hlt;omega
   have B:0≤(p:Int)∧(p:Int)< ((l.map roE).length:Int):=by rw[List.length_map];omega
   have hs:=NJ T hp0
   have hsm:((skR l p).map pfE).length=(skR l p).length:=List.length_map _
   have hx:=Od T hp0
   refine⟨B,eL B.1 B.2 (il _),⟨rfl,Nat.le_refl _,fun t h1 h2=>by omega⟩, ?_⟩
   rintro k ⟨k1,k2⟩
   --with those that stay open,and the route's own
   have out:(0<k→cvP (at' (skR l p) (k-1)) (at' l p).p=true)→((k+1)*24≤140737488355328∧k+1≤9223372036854775807∧0+1≤List.length [pfE (at' l p).p]∧k≤((skR l p).map pfE).length)∧List.take k ((skR l p).map pfE)++[pfE (at' l p).p]=(skR l (p+1)).map pfE∧inRange .i64 ((p:Int)+1)∧
     ∃p',(⟨[.any, .any, .any, .vsl 1 0 (k+1), .int .i64 (if (((k+1:Nat):Int))>mxG l p then (((k+1:Nat):Int)) else mxG l p), .any, .any, .vsl 0 0 (l.map roE).length, .int .i64 (l.map roE).length, .int .i64 ((p:Int)+1), .any, .any, .any, .any, .any, .any, .any, .any, .any, .any, .any, .any, .any, .any, .any, .any, .any, .any, .any, .any, .any, .any, .any, .any, .any, .any, .any, .any, .any, .any, .any, .any, .any, .any],[some ⟨false,66,4,true,l.map roE⟩,some ⟨true,64,3,true,(skR l (p+1)).map pfE⟩]⟩:St)=qH (List.map pfE) l p'∧Nat.le p' l.length∧l.length+1-p'<l.length+1-p:=fun h=>by
    have e:=H2 T hp k1 k2 h
    have el:(skR l (p+1)).length=k+1:=by rw[←e,List.length_append,List.length_take,List.length_cons,List.length_nil];omega
    refine⟨⟨by omega,by omega,Nat.le_refl _,by omega⟩, ?_,inR (by omega) (by omega),p+1, ?_,hp,by omega⟩
    ·rw[←e,List.map_append,List.map_take];rfl
    ·unfold qH
     have em:mxG l (p+1)=if (((k+1:Nat):Int))>mxG l p then (((k+1:Nat):Int)) else mxG l p:=by
      show (if ((skR l (p+1)).length:Int)>mxG l p then ((skR l (p+1)).length:Int) else mxG l p)=_
      rw[el]
     rw[em,el];rfl
   refine⟨fun h0=> ?_,fun h0=>out fun h=> ?_⟩
   ·have h0:0<k:=by have:=of_decide_eq_true h0;omega
    have e1:(k:Int)-1=((k-1:Nat):Int):=by omega
    refine⟨inR (by omega) (by omega),e1,by omega,eL (k:=((k-1:Nat):Int)) (by omega) (by omega) (Iz _),fun hc=> ?_,fun hc=>out fun _=> ?_⟩
    ·have hc:(!cvP (at' (skR l p) (k-1)) (at' l p).p)=true:=hc
     have hc:cvP (at' (skR l p) (k-1)) (at' l p).p=false:=by simpa using hc
     refine⟨inR (by omega) (by omega),e1,by omega,k-1,rfl,⟨by omega,fun t h1 h2=> ?_⟩,by omega⟩
     by_cases e:t=k-1
     ·rw[e];exact hc
     ·exact k2 t (by omega) h2
    ·have hc:(!cvP (at' (skR l p) (k-1)) (at' l p).p)=false:=hc
     simpa using hc
   ·have h0:=of_decide_eq_false h0
    omega
  ·have hp:p=l.length:=by simp only[decide_eq_false_iff_not,List.length_map] at hge;omega
   subst hp
   obtain⟨a1,a2,a3⟩:=te l l.length
   rw[Kn T a1 a2 a3]
 ·exact hF.elim

end Go.Proofs.YtcabofadpheomaaGreat.L1
end

