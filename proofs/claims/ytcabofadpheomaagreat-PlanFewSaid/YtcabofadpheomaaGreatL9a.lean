/-
 Texts in one: L9M L9A L9D.
-/
import Derived.Test.YtcabofadpheomaaGreatL6a

section
namespace Go.Sx.M
open Go.Proofs.YtcabofadpheomaaGreat.L1

theorem ur{w w':Int}{l:List Ro}(h:TB w l){p:Pf}(hp:riP w' p=true):(jh l p=none∧∀x∈l,ovP x.p p=false)∨∃x,x∈l∧jh l p=some x∧ovP x.p p=true∧∀y∈l,ovP y.p p=true→y.p.len≤x.p.len:=by
 unfold jh
 rcases uF (oB h p.len) p.a p.b with⟨h1,h2⟩| ⟨x,hx,h1,h2,h3⟩
 ·refine .inl ⟨h1,fun x hx=> ?_⟩
  cases e:ovP x.p p with
  |false=>rfl
  |true=>
   obtain⟨a,b⟩:=(gC (h.rip hx) hp).1 e
   rw[h2 x (jq.2 ⟨hx,a⟩)] at b;cases b
 ·obtain⟨hx,hl⟩:=jq.1 hx
  refine .inr ⟨x,hx,h1,(gC (h.rip hx) hp).2 ⟨hl,h2⟩,fun y hy ho=> ?_⟩
  obtain⟨a,b⟩:=(gC (h.rip hy) hp).1 ho
  exact h3 y (jq.2 ⟨hy,a⟩) b

theorem J6{w w':Int}{k m:List Ro}(hk:TB w k)(hm:TB w m){p:Pf}(hp:riP w' p=true)(h:∀x,ovP x.p p=true→(x∈k↔x∈m)):jh k p=jh m p:=by
 rcases ur hk hp with⟨h1,h2⟩| ⟨x,hx,h1,h2,h3⟩
 ·rw[h1]
  refine (wu hm hp fun j hj=> ?_).symm
  cases e:ovP (at' m j).p p with
  |false=>rfl
  |true=>
   have:=h2 _ ((h _ e).2 (fb hj))
   rw[this] at e;cases e
 ·rw[h1]
  exact (BX hm hp ((h _ h2).1 hx) h2 fun y hy ho=>h3 y ((h _ ho).2 hy) ho).symm

def jA(c:Option Ro)(x:Ro):Bool:=match c with|none=>true|some c=> !decide (c.act=x.act)

def AO(k:List Ro)(x:Ro):List Ro:=if jA (jh k x.p) x then k++[x] else k

def kpR(l:List Ro):List Ro:=l.foldl AO []

theorem AM(l:List Ro)(x:Ro):kpR (l++[x])=AO (kpR l) x:=by
 unfold kpR
 rw[List.foldl_append];rfl

theorem yc:∀(l k:List Ro),∃r,l.foldl AO k=k++r∧r.Sublist l
 | [],k=>⟨[],by simp, .slnil⟩
 |x::l,k=>by
  obtain⟨r,h1,h2⟩:=yc l (AO k x)
  rw[List.foldl_cons,h1]
  unfold AO
  split
  ·exact⟨x::r,by simp,h2.cons_cons _⟩
  ·exact⟨r,rfl,h2.cons _⟩

theorem pD(l:List Ro):(kpR l).Sublist l:=by
 obtain⟨r,h1,h2⟩:=yc l []
 unfold kpR
 rw[h1]
 simpa using h2

theorem kk{l:List Ro}{x:Ro}(h:x∈kpR l):x∈l:=(pD l).subset h
theorem kF{w:Int}{l:List Ro}(h:TB w l):TB w (kpR l):=h.sub (pD l)

theorem GY(l m:List Ro):∃r,kpR (l++m)=kpR l++r∧r.Sublist m:=by
 obtain⟨r,h1,h2⟩:=yc m (kpR l)
 refine⟨r, ?_,h2⟩
 rw[←h1]
 unfold kpR
 rw[List.foldl_append]

theorem Oj{w:Int}{l:List Ro}(h:TB w l){x:Ro}:x∈kpR l↔x∈l∧jA (jh (kpR l) x.p) x=true:=by
 have key:∀x∈l,(x∈kpR l↔jA (jh (kpR l) x.p) x=true):=by
  intro x hx
  obtain⟨s,t,rfl⟩:=List.append_of_mem hx
  have hs:TB w s:=h.sub (List.sublist_append_left _ _)
  have hsort:=h.sorted
  rw[List.pairwise_append] at hsort
  obtain⟨_,h2,h3⟩:=hsort
  obtain⟨h4,_⟩:=List.pairwise_cons.1 h2
  have e:s++x::t=(s++[x])++t:=by simp
  obtain⟨r,e1,hr⟩:=GY (s++[x]) t
  rw[AM,←e] at e1
  have hxs:x ∉ kpR s:=fun hm=>by
   have:=h3 x (kk hm) x List.mem_cons_self
   rw[fa] at this;omega
  have hxr:x ∉ r:=fun hm=>by
   have:=h4 x (hr.subset hm)
   rw[fa] at this;omega
  have hcv:jh (kpR (s++x::t)) x.p=jh (kpR s) x.p:=by
   refine J6 (kF h) (kF hs) (h.rip hx) fun y ho=> ?_
   rw[e1]
   constructor
   ·intro hy
    rcases List.mem_append.1 hy with hy|hy
    ·unfold AO at hy
     split at hy
     ·rcases List.mem_append.1 hy with hy|hy
      ·exact hy
      ·rw[List.mem_singleton] at hy
       subst hy
       have:=(fw.1 ho).1
       exact absurd rfl this
     ·exact hy
    ·have hyt:=hr.subset hy
     have h5:=h4 y hyt
     have hyl:y∈s++x::t:=List.mem_append_right _ (List.mem_cons_of_mem _ hyt)
     have:=i8 (h.rip hyl) (h.rip hx) ho
     have:=fL this h5
     rw[fa] at this;omega
   ·intro hy
    refine List.mem_append_left _ ?_
    unfold AO
    split
    ·exact List.mem_append_left _ hy
    ·exact hy
  rw[hcv,e1,List.mem_append]
  unfold AO
  split
  ·rename_i hsay
   rw[hsay]
   exact⟨fun _=>rfl,fun _=> .inl (by simp)⟩
  ·rename_i hsay
   exact⟨fun hm=>hm.elim (fun h=>absurd h hxs) fun h=>absurd h hxr,fun hm=>absurd hm hsay⟩
 exact⟨fun hx=>⟨kk hx,(key x (kk hx)).1 hx⟩,fun hx=>(key x hx.1).2 hx.2⟩

theorem IC{w w':Int}{p q:Pf}(hp:riP w p=true)(hq:riP w' q=true){c d:BitVec 64}(h1:mtP p c d=true)(h2:mtP q c d=true)(hl:p.len<q.len):ovP p q=true:=by
 rw[gC hp hq]
 refine⟨hl,fR.2 fun i hi hil=> ?_⟩
 rw[fR.1 h1 i hi hil,fR.1 h2 i hi (by omega)]

theorem GM{w w':Int}{p q:Pf}(hp:riP w p=true)(hq:riP w' q=true){c d:BitVec 64}(h:ovP p q=true)(h2:mtP q c d=true):mtP p c d=true:=by
 obtain⟨hl,hm⟩:=(gC hp hq).1 h
 refine fR.2 fun i hi hil=> ?_
 rw[fR.1 hm i hi hil,fR.1 h2 i hi (by omega)]

theorem Jq{w:Int}{l:List Ro}(h:TB w l)(c d:BitVec 64):tlR (kpR l) c d=tlR l c d:=by
 have hk:=kF h
 unfold tlR
 rcases uF h c d with⟨h1,h2⟩| ⟨x,hx,h1,h2,h3⟩
 ·rw[h1]
  rw[wL hk fun j hj=>h2 _ (kk (fb hj))]
 ·rw[h1]
  by_cases hm:x∈kpR l
  ·rw[rV hk hm h2 fun y hy hmy=>h3 y (kk hy) hmy]
  ·have hs:jA (jh (kpR l) x.p) x=false:=by
    cases e:jA (jh (kpR l) x.p) x with
    |false=>rfl
    |true=>exact absurd ((Oj h).2 ⟨hx,e⟩) hm
   rcases ur hk (h.rip hx) with⟨g1,_⟩| ⟨y,hy,g1,g2,g3⟩
   ·rw[g1] at hs;cases hs
   ·rw[g1] at hs
    have hact:y.act=x.act:=by
     unfold jA at hs
     simpa using hs
    rw[rV hk hy (GM (hk.rip hy) (h.rip hx) g2 h2) fun z hz hmz=> ?_]
    ·exact hact
    ·have hzl:=h3 z (kk hz) hmz
     refine g3 z hz (IC (hk.rip hz) (h.rip hx) hmz h2 ?_)
     rcases Int.lt_or_eq_of_le hzl with hlt|he
     ·exact hlt
     ·have:=qn (hk.rip hz) (h.rip hx) he hmz h2
      have:=h.one (kk hz) hx this
      subst this
      exact absurd hz hm

theorem E9(p:Pf):mtP p p.a p.b=true:=fR.2 fun _ _ _=>rfl

end Go.Sx.M
end

section
namespace Go.Proofs.YtcabofadpheomaaGreat.L1
open Go.Sx Go.Sx.M

end Go.Proofs.YtcabofadpheomaaGreat.L1
end

section
namespace Go.Proofs.YtcabofadpheomaaGreat.L1
open Go.Sx Go.Sx.M

def yz:List Arg→(Res→Prop)→Prop
 | [.row r_l],R=>r_l=(deR r_l).map roE∧tbR 128 (deR r_l)=true∧R (.vrow 66 4 ((kpR (deR r_l)).map roE))
 |_,_=>False

def tb9(l:List Ro):Bool:=decide (l.length≤24)&&tbR 128 l

def pg:List Arg→(Res→Prop)→Prop
 | [.row r_l],R=>r_l=(deR r_l).map roE∧(deR r_l).length≤9223372036854775807∧R (.v (.bool (tb9 (deR r_l))))
 |_,_=>False

noncomputable def mD:List (FuncId×Sx.Spec):=[(29,ey [pRo] N8),
 (28,ey [none,vT] sE)]

theorem CX(l:List Ro)(r:AV):run mD Tryz.prog 6 [.vsl 0 0 (l.map roE).length] [some ⟨false,(pRo.getD (0,0)).1,(pRo.getD (0,0)).2,true,(l.map roE)⟩] [.fork [] []] (eM (.v r))=
  (let h:=(0:Nat);let f:=List.map roE;let b:=List.length (f l);let e:=Decidable.decide ((↑(b):Int)≤(24:Int));let d:=List.take (b) (List.drop h (f l));let a:=f (deR (d));let g:=List.length (a);let c:=List.take (g) (List.drop h (a));((e=true→h+b≤b∧d=a∧List.length (deR (d))≤(1000000:Nat)∧h+g≤g∧c=f (deR (c))∧List.length (deR (c))≤(9223372036854775807:Nat)∧AV.bool (tbR (128:Int) (deR (c)))=r)∧(e=false→AV.bool false=r))):=by kernel_rfl

theorem zG:∀e∈mD,eJ Tryz.prog e.1 e.2:=by
 intro e he
 simp only[mD,List.mem_cons,List.not_mem_nil,or_false] at he
 rcases he with rfl|rfl
 ·exact N7
 ·exact C4

theorem qi:eJ Tryz.prog 6 (ey [pRo] pg):=by
 refine eK (eS (l:=mD) zG mixed noNG) fun l R hF=> ?_
 unfold pg at hF
 split at hF
 ·rename_i r_l
  obtain⟨hr_l,hl,hF⟩:=hF
  generalize deR r_l=l at hr_l hl hF
  subst hr_l
  refine⟨_,hF,rfl,[.fork [] []], ?_⟩
  show run mD Tryz.prog _ [.vsl 0 0 (l.map roE).length] [some ⟨false,(pRo.getD (0,0)).1,(pRo.getD (0,0)).2,true,(l.map roE)⟩] _ _
  rw[CX];(conv=>zeta)
  refine⟨fun h=> ?_,fun h=> ?_⟩
  ·have hn:l.length≤24:=by have:=of_decide_eq_true h;rw[List.length_map] at this;omega
   simp only[List.length_map,zF (rfl:l.length=l.length),iL,zLe,true_and,eq_true (show l.length≤1000000 by omega),eq_true hl]
   unfold tb9
   rw[decide_eq_true hn];rfl
  ·have hn:¬l.length≤24:=by have:=of_decide_eq_false h;rw[List.length_map] at this;omega
   unfold tb9
   rw[decide_eq_false hn];rfl
 ·exact hF.elim

theorem xi{l:List Ro}(h:tb9 l=true):l.length≤24∧TB 128 l:=by
 unfold tb9 at h
 rw[Bool.and_eq_true,decide_eq_true_eq,gm] at h
 exact h

end Go.Proofs.YtcabofadpheomaaGreat.L1
end

