/-
 Texts in one: SxO SxN.
-/
import Derived.Test.YtcabofadpheomaaGreatSxA
import Derived.OrdersHeld
import Derived.OrdersIn
import Derived.LoopNIn
import Derived.RangeFuncCalls
import Derived.Scope

section
namespace Go.Sx

section
variable {P:Program} {ops:Array Oper} {Q:Exit→Act→World→Prop} {md:Region.Mode} {S:Array Bool→World→Prop}

def ow(P:Program)(md:Region.Mode)(ops:Array Oper)(Q:Exit→Act→World→Prop)(S:Array Bool→World→Prop):Nat→Array Bool→Act→World→Prop
 |0,listed,a,w=>Region.ready md ops listed=[]∧Q .normal a w
 |fuel+1,listed,a,w=>
  (Region.ready md ops listed=[]→Q .normal a w)∧
  ∀i∈Region.ready md ops listed,wpOp P ops Q i (fun a' w'=>S (listed.setIfInBounds i true) w'∧ow P md ops Q S fuel (listed.setIfInBounds i true) a' w') a w

theorem ou:∀(fuel:Nat) (listed:Array Bool) (a:Act) (w:World),ow P md ops Q S fuel listed a w→wpAny P md ops Q fuel listed a w
 |0,_,_,_,h=>h
 |fuel+1,_,_,_,h=>⟨h.1,fun i hi=>wpOp_mono (fun a' w' h'=>ou fuel _ a' w' h'.2) (h.2 i hi)⟩

def nI(md:Region.Mode)(ops:Array Oper)(listed:Array Bool):Prop:=
 ∀(j:Nat) (o:Oper),ops[j]?=some o→listed.getD j false=true→∀e∈o.after,Region.binds md e=true→listed.getD e.on false=true

theorem rj(n:Nat):nI md ops (Array.replicate n false):=by
 intro j o _ h
 simp[Array.getD_eq_getD_getElem?,Array.getElem?_replicate] at h
 split at h<;>simp at h

theorem nI.step{listed:Array Bool}(h:nI md ops listed){i:Nat}(hi:i∈Region.ready md ops listed):nI md ops (listed.setIfInBounds i true):=by
 obtain⟨_,oi,hoi,hall⟩:=mem_ready.1 hi
 intro j o hj hl e he hb
 refine getD_set_true ?_
 by_cases hij:i=j
 ·subst hij
  rw[hoi] at hj;cases hj
  exact hall e he hb
 ·rw[getD_set_ne false hij] at hl
  exact h j o hj hl e he hb

theorem wZ{i:Nat}{oi:Oper}{v:Value}(S0:World→Prop)(hi:ops[i]?=some oi)(hsel:∀(j:Nat) (o:Oper) cs b,ops[j]?=some o→o.op≠ .select cs b)
  (hQ:∀c a w,Q (.panic c) (a.put oi.dst v) w→Q (.panic c) a w)
  (h0:∀L w,nI md ops L→L.getD i true=false→S L w→S0 w) (h1:∀L w,S L w→S (L.setIfInBounds i true) w) (h2:∀L w,S (L.setIfInBounds i true) w→S L w):
  ∀(fuel:Nat) (listed:Array Bool) (a:Act) (w:World),nI md ops listed→
   (∀j oj,ops[j]?=some oj→j≠i→listed.getD j true=false→(∀e∈oj.after,Region.binds md e=true→e.on≠i)→oi.apart ops oj=true)→
   i∈Region.ready md ops listed→YieldsIf P ops S0 oi v a→S listed w→
   ow P md ops Q S fuel (listed.setIfInBounds i true) (a.put oi.dst v) w→ow P md ops Q S (fuel+1) listed a w:=by
 intro fuel
 induction fuel with
 |zero=>
  intro listed a w hcl _ hr hy hS H
  refine⟨fun h=>(by rw[h] at hr;cases hr),fun j hj=> ?_⟩
  by_cases hji:j=i
  ·subst hji;exact hy.wpOp hi (h0 _ _ hcl (mem_ready.1 hr).1 hS) ⟨h1 _ _ hS,H⟩
  ·have:=ready_mono hj hji
   rw[H.1] at this
   cases this
 |succ fuel ih=>
  intro listed a w hcl hfree hr hy hS H
  refine⟨fun h=>(by rw[h] at hr;cases hr),fun j hj=> ?_⟩
  by_cases hji:j=i
  ·subst hji;exact hy.wpOp hi (h0 _ _ hcl (mem_ready.1 hr).1 hS) ⟨h1 _ _ hS,H⟩
  ·have g1:=H.2 j (ready_mono hj hji)
   obtain⟨hjun,oj,hoj,hall⟩:=mem_ready.1 hj
   have hnot:∀e∈oj.after,Region.binds md e=true→e.on≠i:=fun e he hb heq=>by
    have h1:=hall e he hb
    have h0:=(mem_ready.1 hr).1
    rw[heq] at h1
    rcases Nat.lt_or_ge i listed.size with h'|h'
    ·simp[h'] at h0 h1;rw[h0] at h1;cases h1
    ·simp[Array.getElem?_eq_none h'] at h1
   have g2:=wpOp_putIf hoj (hfree j oj hoj hji hjun hnot) (fun cs b=>hsel i oi cs b hi) (fun cs b=>hsel j oj cs b hoj) hQ hy g1
   have hfree':∀k ok,ops[k]?=some ok→k≠i→(listed.setIfInBounds j true).getD k true=false→
     (∀e∈ok.after,Region.binds md e=true→e.on≠i)→oi.apart ops ok=true:=fun k ok hk hki hun hno=>by
    refine hfree k ok hk hki ?_ hno
    by_cases hjk:j=k
    ·subst hjk;exact hjun
    ·rw[getD_set_ne true hjk] at hun;exact hun
   refine wpOp_mono (fun a' w' h3=> ?_) g2
   have hS':S (listed.setIfInBounds j true) w':=h2 _ _ (by rw[Array.setIfInBounds_comm _ _ hji];exact h3.2.1)
   refine⟨hS',ih (listed.setIfInBounds j true) a' w' (hcl.step hj) hfree' (ready_mono hr (Ne.symm hji)) h3.1 hS' ?_⟩
   rw[Array.setIfInBounds_comm _ _ hji]
   exact h3.2.2

theorem my{S':Array Bool→World→Prop}:∀(fuel:Nat) (listed:Array Bool) (a:Act) (w:World),(∀L w,(∀j,listed.getD j false=true→L.getD j false=true)→S' L w→S L w)→ow P md ops Q S' fuel listed a w→ow P md ops Q S fuel listed a w
 |0,_,_,_,_,h=>h
 |fuel+1,_,_,_,hS,h=>⟨h.1,fun i hi=>wpOp_mono (fun a' w' h'=>⟨hS _ _ (fun _ hj=>getD_set_true hj) h'.1,my fuel _ a' w' (fun L w hL=>hS L w fun _ hj=>hL _ (getD_set_true hj)) h'.2⟩) (h.2 i hi)⟩

theorem pn{L:Array Bool}(hL:nI md ops L):∀(fuel n:Nat),L.getD n false=true→∀i∈sJ md ops fuel n,L.getD i false=true
 |0,_,_,i,hi=>by simp[sJ] at hi
 |fuel+1,n,hn,i,hi=>by
  unfold sJ at hi
  split at hi
  ·rename_i o ho
   obtain⟨e,he,hi⟩:=List.mem_flatMap.1 hi
   obtain⟨he1,he2⟩:=List.mem_filter.1 he
   have hl:=hL n o ho hn e (by simpa using he1) he2
   simp only[List.mem_cons] at hi
   rcases hi with rfl|hi
   ·exact hl
   ·exact pn hL fuel e.on hl i hi
  ·simp at hi

def iB(P:Program)(ops:Array Oper)(G:World→World→Prop)(S:World→Prop)(o:Oper)(v:Value)(a:Act):Prop:=
 (Region.wanted o (yielded ops a.tmps)=true∧∀w,S w→(∃w',(execOp a.eval o).run P w= .ok (.value v) w'∧G w w')∨
  ∃f args,(execOp a.eval o).run P w= .ok (.enter f args) w∧Calls P f args w fun e w'=>e= .returned v∧G w w')∨
 (Region.wanted o (yielded ops a.tmps)=false∧v=undef)

variable {G:World→World→Prop} {S0:World→Prop}

theorem iB.wpOp{i:Nat}{o:Oper}{v:Value}{a:Act}(hi:ops[i]?=some o)(hG:∀w,G w w)(hy:iB P ops G S0 o v a)
  {K:Act→World→Prop} {w:World} (hS:S0 w) (h:∀w',G w w'→K (a.put o.dst v) w'):wpOp P ops Q i K a w:=by
 unfold Go.wpOp
 simp only[hi]
 rcases hy with⟨hw,hv⟩| ⟨hw,rfl⟩
 ·simp only[hw,if_true]
  refine .inl ?_
  unfold Oper.wp
  rcases hv w hS with⟨w',hr,hg⟩| ⟨f,args,hr,hc⟩
  ·rw[hr];exact h w' hg
  ·rw[hr]
   refine Calls.mono hc fun e w' he=> ?_
   obtain⟨rfl,hg⟩:=he
   exact h w' hg
 ·simp only[hw,Bool.false_eq_true,if_false];exact h w (hG w)

theorem iB.of_same{o:Oper}{v:Value}{a a':Act}(hy:iB P ops G S0 o v a)(he:execOp a'.eval o=execOp a.eval o)
  (hw:Region.wanted o (yielded ops a'.tmps)=Region.wanted o (yielded ops a.tmps)):iB P ops G S0 o v a':=by
 unfold iB at*
 rw[he,hw]
 exact hy

theorem Gb{j:Nat}{oi oj:Oper}{v:Value}(hj:ops[j]?=some oj)(hap:oi.apart ops oj=true)
  (hsi:∀cs b,oi.op≠ .select cs b) (hsj:∀cs b,oj.op≠ .select cs b)
  (hQ:∀c a w,Q (.panic c) (a.put oi.dst v) w→Q (.panic c) a w) {K:Act→World→Prop} {a:Act} {w:World}
  (hy:iB P ops G S0 oi v a) (h:wpOp P ops Q j K (a.put oi.dst v) w):
  wpOp P ops Q j (fun a' w'=>iB P ops G S0 oi v a'∧K (a'.put oi.dst v) w') a w:=by
 obtain⟨h1,h2,h3⟩:=Oper.apart_spec hap
 have keep:∀(a:Act),iB P ops G S0 oi v a→∀u,iB P ops G S0 oi v (a.put oj.dst u):=fun a hy u=>
  hy.of_same (execOp_put oi hsi a oj.dst u h3) (wanted_put oi a oj.dst u h3)
 have keepD:∀d,iB P ops G S0 oi v { a with defers:=d::a.defers}:=fun d=>hy.of_same rfl rfl
 unfold wpOp at*
 simp only[hj] at*
 rw[wanted_put oj a oi.dst v h1] at h
 split
 ·rename_i hw
  simp only[hw,if_true] at h
  rcases h with h| ⟨hasks,hlets⟩
  case inr=>exact .inr ⟨by unfold Oper.asks at*;rw[execOp_put oj hsj a oi.dst v h1] at hasks;exact hasks,hlets⟩
  refine .inl ?_
  unfold Oper.wp at*
  rw[execOp_put oj hsj a oi.dst v h1] at h
  generalize (execOp a.eval oj).run P w=r at*
  cases r with
  |ok n w'=>
   cases n<;>simp only[Oper.upon] at h⊢
   case value u=>exact⟨keep a hy u,by rw[←Act.put_comm a v u h2];exact h⟩
   case skip=>exact⟨keep a hy _,by rw[←Act.put_comm a v undef h2];exact h⟩
   case defer d=>
    refine⟨keep _ (keepD d) _, ?_⟩
    rw[←Act.put_comm _ v undef h2,←Act.put_defers]
    exact h
   case enter f args=>
    refine Calls.mono h fun e w'' he=> ?_
    cases e with
    |returned u=>exact⟨keep a hy u,by rw[←Act.put_comm a v u h2];exact he⟩
    |panicked c=>exact hQ _ _ _ he
    |outgrown=>exact he
   case row row args=>exact Rows.mono h fun u w'' he=>⟨keep a hy u,by rw[←Act.put_comm a v u h2];exact he⟩
  |halt x w'=>
   cases x<;>simp only[Oper.upon] at h⊢
   case panic u=>exact hQ _ _ _ h
 ·rename_i hw
  simp only[hw] at h
  exact⟨keep a hy _,by rw[←Act.put_comm a v undef h2];exact h⟩

def ox(P:Program)(md:Region.Mode)(ops:Array Oper)(Q:Exit→Act→World→Prop)(G:World→World→Prop)(S:World→Prop):Nat→Array Bool→Act→World→Prop
 |0,listed,a,w=>Region.ready md ops listed=[]∧∀w1,G w w1→Q .normal a w1
 |fuel+1,listed,a,w=>∀w1,G w w1→(Region.ready md ops listed=[]→Q .normal a w1)∧
  ∀i∈Region.ready md ops listed,wpOp P ops Q i (fun a' w'=>S w'∧ox P md ops Q G S fuel (listed.setIfInBounds i true) a' w') a w1

theorem ov(hG:∀w,G w w):∀(fuel:Nat) (listed:Array Bool) (a:Act) (w:World),ox P md ops Q G S0 fuel listed a w→wpAny P md ops Q fuel listed a w
 |0,_,_,w,h=>⟨h.1,h.2 w (hG w)⟩
 |fuel+1,_,_,w,h=>⟨(h w (hG w)).1,fun i hi=>wpOp_mono (fun a' w' h'=>ov hG fuel _ a' w' h'.2) ((h w (hG w)).2 i hi)⟩

theorem qV(hT:∀w w' w'',G w w'→G w' w''→G w w''){w w':World}(hg:G w w'):∀{fuel:Nat} {listed:Array Bool} {a:Act},ox P md ops Q G S0 fuel listed a w→ox P md ops Q G S0 fuel listed a w'
 |0,_,_,h=>⟨h.1,fun w1 h1=>h.2 w1 (hT _ _ _ hg h1)⟩
 |_+1,_,_,h=>fun w1 h1=>h w1 (hT _ _ _ hg h1)

theorem w7{i:Nat}{oi:Oper}{v:Value}(hG:∀w,G w w)(hT:∀w w' w'',G w w'→G w' w''→G w w'')(hSG:∀w w',S0 w→G w w'→S0 w')(hi:ops[i]?=some oi)(hsel:∀(j:Nat) (o:Oper) cs b,ops[j]?=some o→o.op≠ .select cs b)
  (hQ:∀c a w,Q (.panic c) (a.put oi.dst v) w→Q (.panic c) a w):
  ∀(fuel:Nat) (listed:Array Bool) (a:Act) (w:World),
   (∀j oj,ops[j]?=some oj→j≠i→listed.getD j true=false→(∀e∈oj.after,Region.binds md e=true→e.on≠i)→oi.apart ops oj=true)→
   i∈Region.ready md ops listed→iB P ops G S0 oi v a→S0 w→
   ox P md ops Q G S0 fuel (listed.setIfInBounds i true) (a.put oi.dst v) w→ox P md ops Q G S0 (fuel+1) listed a w:=by
 intro fuel
 induction fuel with
 |zero=>
  intro listed a w _ hr hy hS H w1 hg
  refine⟨fun h=>(by rw[h] at hr;cases hr),fun j hj=> ?_⟩
  by_cases hji:j=i
  ·subst hji
   have hS1:=hSG _ _ hS hg
   exact hy.wpOp hi hG hS1 fun w2 h2=>⟨hSG _ _ hS1 h2,qV hT (hT _ _ _ hg h2) H⟩
  ·have:=ready_mono hj hji
   rw[H.1] at this
   cases this
 |succ fuel ih=>
  intro listed a w hfree hr hy hS H w1 hg
  refine⟨fun h=>(by rw[h] at hr;cases hr),fun j hj=> ?_⟩
  by_cases hji:j=i
  ·subst hji
   have hS1:=hSG _ _ hS hg
   exact hy.wpOp hi hG hS1 fun w2 h2=>⟨hSG _ _ hS1 h2,qV hT (hT _ _ _ hg h2) H⟩
  ·have h1:=(H w1 hg).2 j (ready_mono hj hji)
   obtain⟨hjun,oj,hoj,hall⟩:=mem_ready.1 hj
   have hnot:∀e∈oj.after,Region.binds md e=true→e.on≠i:=fun e he hb heq=>by
    have h1:=hall e he hb
    have h0:=(mem_ready.1 hr).1
    rw[heq] at h1
    rcases Nat.lt_or_ge i listed.size with h'|h'
    ·simp[h'] at h0 h1;rw[h0] at h1;cases h1
    ·simp[Array.getElem?_eq_none h'] at h1
   have h2:=Gb hoj (hfree j oj hoj hji hjun hnot) (fun cs b=>hsel i oi cs b hi) (fun cs b=>hsel j oj cs b hoj) hQ hy h1
   have hfree':∀k ok,ops[k]?=some ok→k≠i→(listed.setIfInBounds j true).getD k true=false→
     (∀e∈ok.after,Region.binds md e=true→e.on≠i)→oi.apart ops ok=true:=fun k ok hk hki hun hno=>by
    refine hfree k ok hk hki ?_ hno
    by_cases hjk:j=k
    ·subst hjk;exact hjun
    ·rw[getD_set_ne true hjk] at hun;exact hun
   refine wpOp_mono (fun a' w' h3=>⟨h3.2.1,ih (listed.setIfInBounds j true) a' w' hfree' (ready_mono hr (Ne.symm hji)) h3.1 h3.2.1 ?_⟩) h2
   rw[Array.setIfInBounds_comm _ _ hji]
   exact h3.2.2

end
end Go.Sx
end

section
namespace Go.Sx
open Go

def rnd(ro:Option Nat):Fence:={ Fence.wide with round:=ro}

def defers(o:Op):Bool:=match o with| .defer _=>true|_=>false

def im:Code→Bool
 | .region _ ops _=>ops.all fun o=> !defers o.op
 | .seq a b| .cond _ a b=>im a&&im b
 | .rangeFunc _ _ _ _=>false
 | .block _ c| .loop c| .scope c=>im c
 |_=>true

section
variable {P:Program} {ro:Option Nat} {n:Nat} {Q:Exit→Act→World→Prop}

theorem ES{o:Oper}(h:ro=none∨defers o.op=false)(ρ:Operand→Value):Oper.semAt ro ρ o=execOp ρ o:=by
 rcases h with rfl|h
 ·rfl
 ·exact Oper.semAt_eq _ _ _ fun c hc=>by rw[hc] at h;cases h

theorem px:¬(rnd ro).depth.isSome=true:=by simp[rnd,Fence.wide]

theorem N1{o:Oper}(hd:ro=none∨defers o.op=false){a:Act}{w:World}{K K':Act→World→Prop}(hK:∀a w,K a w→K' a w)(h:o.wp P a w K Q):o.wpIn (rnd ro) n P a w K' Q:=by
 unfold Oper.wp at h
 refine⟨fun _ _=>trivial, ?_⟩
 show o.uponIn (rnd ro) n P a K' Q ((o.semAt ro a.eval).run P w)
 rw[ES hd]
 generalize (execOp a.eval o).run P w=r at h
 cases r with
 |ok x w'=>
  cases x with
  |value v=>exact hK _ _ h
  |skip=>exact hK _ _ h
  |defer d=>exact hK _ _ h
  |enter f args=>
   refine⟨fun e=>absurd e px,(callsIn_wide (n:=n-1)).2 (Calls.mono h fun e w'' he=> ?_)⟩
   cases e with
   |returned v=>exact hK _ _ he
   |panicked c=>exact he
   |outgrown=>exact he
  |row row args=>exact⟨fun e=>absurd e px,fun c cs _=>let ⟨v,w',r,s⟩:=h c cs;⟨v,w',hK _ _ r,stepsIn_wide.2 s⟩⟩
  |_=>exact h.elim
 |halt x w'=>cases x<;>exact h

theorem sd{ops:Array Oper}(hd:ro=none∨(ops.all fun o=> !defers o.op)=true)(hO:¬LetsOut Q){i:Nat}{a:Act}{w:World}{K K':Act→World→Prop}(hK:∀a w,K a w→K' a w)(h:wpOp P ops Q i K a w):wpOpIn (rnd ro) n P ops Q i K' a w:=by
 unfold wpOp at h
 unfold wpOpIn
 cases ho:ops[i]? with
 |none=>
  rw[ho] at h
  exact hK _ _ h
 |some o=>
  rw[ho] at h
  have hdo:ro=none∨defers o.op=false:=hd.imp id fun hall=>by
   obtain⟨hlt,rfl⟩:=Array.getElem?_eq_some_iff.1 ho
   have:=Array.all_eq_true.1 hall i hlt
   simpa using this
  by_cases hw:Region.wanted o (yielded ops a.tmps)=true
  ·simp only[hw,if_true] at h⊢
   exact N1 hdo hK (h.resolve_right fun hx=>hO hx.2)
  ·simp only[hw] at h⊢
   exact⟨fun _ _=>trivial,hK _ _ h⟩

theorem vD{ops:Array Oper}(hd:ro=none∨(ops.all fun o=> !defers o.op)=true)(hO:¬LetsOut Q):∀(l:List Nat) (a:Act) (w:World),wpOps P ops Q l a w→wpOpsIn (rnd ro) n P ops Q l a w
 | [],_,_,h=>h
 |i::l,a,w,h=>by
  rw[wpOps_cons] at h
  rw[wpOpsIn_cons]
  exact sd hd hO (vD hd hO l) h

theorem ic{ops:Array Oper}{md:Region.Mode}(hd:ro=none∨(ops.all fun o=> !defers o.op)=true)(hO:¬LetsOut Q):∀(fuel:Nat) (listed:Array Bool) (a:Act) (w:World),wpAny P md ops Q fuel listed a w→wpAnyIn (rnd ro) n P md ops Q fuel listed a w
 |0,_,_,_,h=>h
 |fuel+1,listed,_,_,h=>⟨h.1,fun i hi=>sd hd hO (ic hd hO fuel (listed.setIfInBounds i true)) (h.2 i hi)⟩

end
section
variable {P:Program} {F:Fence} {n:Nat} {Q:Exit→Act→World→Prop} {b:Frame} {a:Act} {k:List Item} {cs:List Frame} {w:World}

theorem zK{c:Code}:step P (lone (b.atR a (.code (.scope c)::k)) cs w)= .next (lone (b.atR a (.code c:: .inScope c::k)) cs w):=
 step_lone_go (by simp[stepG,stepG.exec,Frame.atR])

theorem uZ{c:Code}:step P (lone (b.atR a (.inScope c::k)) cs w)= .next (lone (b.atR a k) cs w):=
 step_lone_go (by simp[stepG,stepG.exec,Frame.atR])

def mK(F:Fence)(n:Nat)(P:Program)(body:Code)(Q:Exit→Act→World→Prop):Nat→Code→Act→World→Prop
 |0,_,_,_=>False
 |m+1,c,a,w=>c.wpIn F n P (fun e a w=>match e with
   | .goto l=>∃d,findLabel body l=some d∧mK F n P body Q m d a w
   |e=>Q e a w) a w

theorem ot{body:Code}(m:Nat)(h:mK F n P body Q m body a w):(Code.scope body).wpIn F n P Q a w:=by
 intro b k cs hro hb hr
 have key:∀m c a w,mK F n P body Q m c a w→
   ∃e a' w',Q e a' w'∧ArrivesIn (Machine.fenced P F) P (lone (b.atR a (.code c:: .inScope body::k)) cs w) b k cs e a' w':=by
  intro m
  induction m with
  |zero=>intro c a w h;exact h.elim
  |succ m ih=>
   intro c a w h
   obtain⟨e,a₁,w₁,hq,harr⟩:=h b (.inScope body::k) cs hro hb hr
   cases e with
   |normal=>exact⟨.normal,a₁,w₁,hq,StepsIn.trans harr (.one (fenced_calm hb hr rfl) uZ)⟩
   |exit id=>exact⟨.exit id,a₁,w₁,hq,fun k' hk=>harr.1 k' (by simp[exitTo,hk]),fun hr' hk=>harr.2 hr' (by simp[exitTo,hk])⟩
   |goto l=>
    obtain⟨d,hd,hp⟩:=hq
    obtain⟨e₂,a₂,w₂,hq₂,harr₂⟩:=ih d a₁ w₁ hp
    exact⟨e₂,a₂,w₂,hq₂, .of_steps (harr.1 _ (by simp[gotoIn,hd])) harr₂⟩
   |ret=>exact⟨_,a₁,w₁,hq,harr⟩
   |panic ch=>exact⟨_,a₁,w₁,hq,harr⟩
   |outgrown=>exact⟨_,a₁,w₁,hq,harr⟩
 obtain⟨e,a',w',hq,harr⟩:=key m body a w h
 exact⟨e,a',w',hq, .of_steps (.one (fenced_calm hb hr rfl) zK) harr⟩

end
end Go.Sx
end

