/-
 The calculus (SxA): code, loops, functions; what is said of an iterator.
-/
import Derived.Test.YtcabofadpheomaaGreatSxB
import Derived.Test.YtcabofadpheomaaGreatSxa
import Derived.RangeFuncNested
namespace Go.Sx
open Go.RowKit

structure HpK(G:Gd)(ρ:List Loc)(h:Hp)(w:World):Prop where
 hp:∃B o,HpR B ρ h w∧ObjsO o B ρ h w∧∀r k l,h.obj r=some k→At ρ r l→∀b∈o r,G b
 row:∀r k l,h.row r=some k→At ρ r l→G l.b
 low:∀b,G b→b<w.heap.size

def KpG(G:Gd)(w w':World):Prop:=w.heap.size≤w'.heap.size∧∀b,G b→b<w.heap.size→w'.heap[b]?=w.heap[b]?

def RM(P:Program)(g:FuncId)(caps:List AV)(h:Hp)(xs:List AV):Prop:=
 ∀G ρ w vs,HpK G ρ h w→AVRs ρ caps vs→(∀args w,(callFunc g args).run P w= .ok (.enter g args) w)∧
  ∃us:List Value,AVRs [] xs us∧∀(n:Nat) (β:Type) (f:β→Value) (zs:List β),zs.map f=us→SeqStopsK (rnd none) n P g vs.toArray (fun z:β=> #[f z]) (KpG G) (fun ys=>ys=zs) (fun pre=>pre<+:zs) zs.length w

def xt(rd:List Nat)(h:Hp):Hp:=h.mapIdx fun i x=>match rd.contains i with|true=>x|false=>none

def mq(rd:List Nat)(h:Hp):Hp:=h.mapIdx fun i x=>match x with
 |some k=>(match rd.contains i,k.esz with|true,_=>some { k with wr:=false}|false,0=>some { k with wr:=false}|false,_+1=>some k)
 |none=>none

def EK(n0:Nat)(rm:List Nat)(h:Hp):Option Hp:=
 let a:=kP n0 h (List.range n0) []
 let a:=kP n0 h a a
 let σ:=List.range n0++a
 match decide σ.Nodup with
 |true=>o9 σ h σ (σ.map fun r=>(match h[r]? with|some (some _)=>(match rm with| []=>1|m::_=>m)|_=>0))
 |false=>none

def Ih{α:Type}(n0:Nat)(t:List AV)(xs:List α)(H:List α→Hp)(I:List α→Prop)(rm:List Nat)(pre:List α)(K:Ex→St→List Hint→Prop):Ex→St→List Hint→Prop:=fun e s hs=>match e with
 | .normal=>match EK n0 rm s.h with
  |some h=>mq [] h=H pre∧I pre
  |none=>False
 | .goto _=>False
 |e=>pre<+:xs→K e ⟨t,mq [] s.h⟩ hs

def M9(n0:Nat)(asg body:St→List Hint→(Ex→St→List Hint→Prop)→Prop)(It:List AV→Hp→List AV→Prop)(ps:List Tmp)(caps:List AV)(st:St)(hs:List Hint)(K:Ex→St→List Hint→Prop):Prop:=
 match hs,ps,oz with
 | .rng _ E xs rd bx H I m0 m rs::hs,[p],false=>(match wU bx (mq rd st.h) with
   |some h=>(match EK n0 m0 h with|some h=>mq [] h=H []∧I []|none=>False)
   |none=>False)∧It caps (xt rd st.h) (xs.map E)∧
   (∀pre x,pre.length<xs.length→I pre→asg ⟨st.t.set p (E x),H pre⟩ (rs pre x) fun e s1 hs1=>match e with
    | .normal=>body ⟨s1.t,mq [] s1.h⟩ hs1 (Ih n0 st.t xs H I m (pre++[x]) K)
    |_=>False)∧
   (I xs→K .normal ⟨st.t,H xs⟩ hs)
 |_,_,_=>False

def lN(h:Hp):Bool:=h.all fun x=>match x with
 |some ⟨w,_,0,_,_⟩=>w
 |_=>true

def Il:List AV→List (Nat×AV)→List AV
 |t,[]=>t
 |t,(p,y)::l=>Il (t.set p y) l

def DR:Option Ex→Bool
 |none=>true
 |some _=>false

def C6(asg body:Nat→St→List Hint→(Ex→St→List Hint→Prop)→Prop)(t:List AV)(ps:List Tmp)(ys:List AV)(h:Hp)(hs:List Hint)(K:Option Ex→Hp→List Hint→Prop):Prop:=
 match decide (ys.length=ps.length) with
 |true=>asg h.length ⟨Il t (ps.zip ys),h⟩ hs fun e s1 hs1=>match e with
  | .normal=>(match lN s1.h with
   |true=>body s1.h.length s1 hs1 fun e s2 hs2=>match e with
    | .normal=>(match lN s2.h with
     |true=>K none s2.h hs2
     |false=>False)
    | .goto _=>False
    | .ret=>(match lN s2.h with
     |true=>K (some .ret) s2.h hs2
     |false=>False)
    | .exit id=>(match lN s2.h with
     |true=>K (some (.exit id)) s2.h hs2
     |false=>False)
   |false=>False)
  |_=>False
 |false=>False

abbrev Rnd:=List AV→Hp→List Hint→(Option Ex→Hp→List Hint→Prop)→Prop

def oV(C:Call)(P:Program)(l:Nat)(Rd:Rnd)(ops:List Oper):List Oper→St→Option Ex→List Hint→(St→Option Ex→List Hint→Prop)→Prop
 | [],st,m,hs,K=>K st m hs
 |o::rest,st,m,hs,K=>match o.op with
  | .call { callee:= .value (.tmp t),args,argTypes:=_}=>wanted ops o st hs fun w st hs=>match w with
   |false=>fSt (st.put o.dst (.lit undef)) fun st=>oV C P l Rd ops rest st m hs K
   |true=>match st.op (.tmp t),m with
    | .func (.yield l') [] [],none=>l'=l∧Rd (args.toList.map st.op) st.h hs fun m h hs=>fSt (({ st with h:=h}:St).put o.dst (.lit (.bool (DR m)))) fun st=>oV C P l Rd ops rest st m hs K
    |_,_=>False
  |_=>jO C P ops o st hs fun st hs=>oV C P l Rd ops rest st m hs K

def iE(n0:Nat)(M M':Modes)(N:St→Prop)(K:Ex→St→Option Ex→List Hint→Prop)(hs:List Hint):Ex→St→Option Ex→List Hint→Prop:=fun e s m hs2=>match e,m with
 | .normal,some _=>False
 |e,m=>gZ n0 M M' N (fun e st hs=>K e st m hs) hs e s hs2

def lr(C:Call)(P:Program)(l n0:Nat)(Rd:Rnd):Code→St→Option Ex→List Hint→(Ex→St→Option Ex→List Hint→Prop)→Prop
 | .skip,st,m,hs,K=>K .normal st m hs
 | .region _ ops draw,st,m,hs,K=>match draw with
  |true=>lF 6 hs fun hs=>jN C P ops true st hs fun st hs=>K .normal st m hs
  |false=>lF 6 hs fun hs=>oV C P l Rd ops.toList ops.toList st m hs fun st m hs=>K .normal st m hs
 | .seq a b,st,m,hs,K=>lr C P l n0 Rd a st m hs fun e st m hs=>match e with
  | .normal=>lr C P l n0 Rd b st m hs K
  |e=>K e st m hs
 | .cond c a b,st,m,hs,K=>Gl (st.op c) hs fun p hs=>match p with
  |true=>lr C P l n0 Rd a st m hs K
  |false=>lr C P l n0 Rd b st m hs K
 | .block id body,st,m,hs,K=>lr C P l n0 Rd body st m hs fun e st m hs=>match e with
  | .exit id'=>match decide (id'=id) with
   |true=>K .normal st m hs
   |false=>K (.exit id') st m hs
  |e=>K e st m hs
 | .loop body,st,m,hs,K=>match m,hs with
  |none, .linv _ p0 Φ I μ M0 M M' af hs'::hs=>(match gV n0 M0 st with|some T=>T=Φ p0∧I p0|none=>False)∧
    ∀p,I p→lr C P l n0 Rd body (Φ p) none (hs' p) (iE n0 M M' (fun T=>∃p',T=Φ p'∧I p'∧μ p'<μ p) K (af p++hs))
  |none, .linw _ _ p0 Φ Ψ I J μ ν M0 M M' af ag hs' gs'::hs=>(match gV n0 M0 st with|some T=>T=Φ p0∧I p0|none=>False)∧
    (∀p,I p→lr C P l n0 Rd body (Φ p) none (hs' p) (iE n0 M M' (fun T=>(∃p',T=Φ p'∧I p'∧μ p'<μ p)∨∃q,T=Ψ q∧J q∧ν q<μ p) K (af p++hs)))∧
    ∀q,J q→lr C P l n0 Rd body (Ψ q) none (gs' q) (iE n0 M M' (fun T=>(∃p,T=Φ p∧I p∧μ p<ν q)∨∃q',T=Ψ q'∧J q'∧ν q'<ν q) K (ag q++hs))
  |_,_=>False
 | .exit id,st,m,hs,K=>K (.exit id) st m hs
 | .ret,st,m,hs,K=>K .ret st m hs
 |_,_,_,_,_=>False

def Qa:Option Ex→Ex
 |none=> .normal
 |some e=>e

def Na(C:Call)(P:Program)(gf:FuncId)(caps:List AV)(Rd:Rnd)(st:St)(H:Nat→List Hint)(hs:List Hint)(K:Ex→St→List Hint→Prop):Prop:=
 match P.funcs[gf]? with
 |none=>False
 |some fn=>match fn.body with
  |none=>False
  | some c => match decide (fn.results.toList.length = 0), im c && (fn.name != "runtime.NumGoroutine"), decide (caps.length + 1 ≤ fn.ntmps) with
   |true,true,true=>∀l,lr C P l st.h.length Rd c ⟨(AV.func (.yield l) [] []::caps)++List.replicate (fn.ntmps-(caps.length+1)) (.lit undef),st.h⟩ none (H l) fun e s2 m _=>match e with
    | .exit _=>False
    | .goto _=>False
    |_=>(match lN s2.h with
     |true=>K (Qa m) ⟨st.t,s2.h⟩ hs
     |false=>False)
   |_,_,_=>False

def ev(C:Call)(P:Program)(n0:Nat):Code→Md→St→List Hint→(Ex→St→List Hint→Prop)→Prop
 | .seq a b,m,st,hs,K=>match m with
  | .all=>ev C P n0 a .all st hs fun e st hs=>match e with
   | .normal=>ev C P n0 b .all st hs K
   |e=>K e st hs
  | .til l=>match gP a l with
   |true=>ev C P n0 a (.til l) st hs K
   |false=>ev C P n0 a .all st hs fun e st hs=>match e with
    | .normal=>ev C P n0 b (.til l) st hs K
    |e=>K e st hs
  | .beh l=>match gP a l with
   |true=>ev C P n0 a (.beh l) st hs fun e st hs=>match e with
    | .normal=>ev C P n0 b .all st hs K
    |e=>K e st hs
   |false=>ev C P n0 b (.beh l) st hs K
 | .label l',m,st,hs,K=>match m with
  | .all=>K .normal st hs
  | .til l=>match decide (l'=l) with
   |true=>K .normal st hs
   |false=>False
  | .beh l=>match decide (l'=l) with
   |true=>K .normal st hs
   |false=>False
 | .skip, .all,st,hs,K=>K .normal st hs
 | .region _ ops draw, .all,st,hs,K=>match draw with
  |true=>mrg n0 true (fun hs K=>lF 6 hs fun hs=>match hs with
   | .dag css M Φ::hs=>FB n0 C P ops css M Φ st hs fun st hs=>K .normal st hs
   |hs=>jN C P ops true st hs fun st hs=>K .normal st hs) hs K
  |false=>lF 6 hs fun hs=>jN C P ops false st hs fun st hs=>K .normal st hs
 | .cond c a b, .all,st,hs,K=>mrg n0 false (fun hs K=>Gl (st.op c) hs fun p hs=>match p with
  |true=>ev C P n0 a .all st hs K
  |false=>ev C P n0 b .all st hs K) hs K
 | .block id body, .all,st,hs,K=>mrg n0 false (fun hs K=>ev C P n0 body .all st hs fun e st hs=>match e with
  | .exit id'=>match decide (id'=id) with
   |true=>K .normal st hs
   |false=>K (.exit id') st hs
  |e=>K e st hs) hs K
 | .loop body, .all,st,hs,K=>match hs with
  | .loop n::hs=>Jb (ev C P n0 body .all) n st hs K
  | .linv _ p0 Φ I μ M0 M M' af hs'::hs=>(match gV n0 M0 st with|some T=>T=Φ p0∧I p0|none=>False)∧
    ∀p,I p→ev C P n0 body .all (Φ p) (hs' p) (gZ n0 M M' (fun T=>∃p',T=Φ p'∧I p'∧μ p'<μ p) K (af p++hs))
  | .linw _ _ p0 Φ Ψ I J μ ν M0 M M' af ag hs' gs'::hs=>(match gV n0 M0 st with|some T=>T=Φ p0∧I p0|none=>False)∧
    (∀p,I p→ev C P n0 body .all (Φ p) (hs' p) (gZ n0 M M' (fun T=>(∃p',T=Φ p'∧I p'∧μ p'<μ p)∨∃q,T=Ψ q∧J q∧ν q<μ p) K (af p++hs)))∧
    ∀q,J q→ev C P n0 body .all (Ψ q) (gs' q) (gZ n0 M M' (fun T=>(∃p,T=Φ p∧I p∧μ p<ν q)∨∃q',T=Ψ q'∧J q'∧ν q'<ν q) K (ag q++hs))
  |_=>False
 | .exit id, .all,st,hs,K=>K (.exit id) st hs
 | .ret, .all,st,hs,K=>K .ret st hs
 | .goto l, .all,st,hs,K=>K (.goto l) st hs
 | .scope body, .all,st,hs,K=>match hs with
  | .jmp l _ p0 Φ I μ M0 M hs'::hs=>ev C P n0 body (.til l) st hs fun e st hs=>match e with
   | .normal=>(match gV n0 M0 st with|some T=>T=Φ p0∧I p0|none=>False)∧
     ∀p,I p→ev C P n0 body (.beh l) (Φ p) (hs' p) (tC n0 l M (fun T=>∃p',T=Φ p'∧I p'∧μ p'<μ p) (vX K))
   |e=>vX K e st hs
  |hs=>ev C P n0 body .all st hs (vX K)
 | .rangeFunc g ps a b, .all,st,hs,K=>match im a&&im b,st.op g with
  |true, .func (.func gf) [] caps=>(match hs with
   | .inl H::hs=>Na C P gf caps (C6 (fun n=>ev C P n a .all) (fun n=>ev C P n b .all) st.t ps.toList) st H hs K
   |hs=>M9 st.h.length (ev C P st.h.length a .all) (ev C P st.h.length b .all) (RM P gf) ps.toList caps st hs K)
  |_,_=>False
 |_,_,_,_,_=>False

def qo(P:Program)(st:St):ResultVar→Option AV
 | .tmp t=>some (st.t.getD t .any)
 | .cell a t=>match st.t.getD a .any with
  | .ptr r i o true=>match st.h.row r with
   |some k=>k.read P t i o
   |none=>none
  |_=>none

def xF(P:Program)(st:St)(rs:List ResultVar):Option AV:=
 match fc (rs.map (qo P st)) with
 |some [v]=>some v
 |some vs=>some (.tuple vs)
 |none=>none

def OK(C:Call)(P:Program):Call:=fun f args h hs K=>
 match P.funcs[f]? with
 |none=>False
 |some fn=>match fn.body with
  |none=>False
  |some c=>match decide (args.length≤fn.ntmps) with
   |false=>False
   |true=>ev C P h.length c .all ⟨args++List.replicate (fn.ntmps-args.length) (.lit undef),h⟩ hs fun e st hs=>match e with
    | .exit _=>False
    | .goto _=>False
    |_=>match xF P st fn.results.toList with
     |some v=>K v st.h hs
     |none=>False

abbrev Spec:=List AV→Hp→(AV→Hp→Prop)→Prop

def FP(O:FuncId→Option Spec)(P:Program):Nat→Call
 |0=>fun _ _ _ _ _=>False
 |n+1=>fun f args h hs K=>match O f with
  |some sp=>sp args h fun v h=>K v h hs
  |none=>OK (FP O P n) P f args h hs K

end Go.Sx
