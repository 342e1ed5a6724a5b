/-
 The calculus (SxA): arguments of plain types as it sees them; what a law's row asks.
-/
import Derived.Test.YtcabofadpheomaaGreatSxK
import Derived.ProofKit
import Derived.OpenShut
import Derived.Carry
namespace Go.Sx
open Go.RowKit Go.WideShapes

inductive CK where
 |int (k:IntKind)
 |bool
 |str
 deriving DecidableEq

def CK.fits:CK→Value→Prop
 | .int k,v=>∃n,v= .int k n∧(Lit.int k n).wf=true
 | .bool,v=>∃b,v= .bool b
 | .str,v=>∃s:ByteArray,v= .string s∧s.size≤maxLen

def f8:List CK→List Value→Prop
 | [],[]=>True
 |k::ks,v::vs=>k.fits v∧f8 ks vs
 |_,_=>False

theorem Nw{n:Int}(h:(Lit.int .u64 n).wf=true):0≤n∧n<18446744073709551616:=by
 simp[Lit.wf] at h
 have h1:IntKind.u64.min=0:=by decide
 have h2:IntKind.u64.max=18446744073709551615:=by decide
 omega

theorem iY{v:Value}(h:CK.fits (.int .u64) v):∃x:BitVec 64,v= .int .u64 (x.toNat:Int):=by
 obtain⟨n,rfl,hw⟩:=h
 obtain⟨h0,h1⟩:=Nw hw
 exact⟨BitVec.ofInt 64 n,by rw[toNat_ofInt h0 h1]⟩

theorem f9{k:CK}{ks:List CK}{cs:List Value}(h:f8 (k::ks) cs):∃v vs,cs=v::vs∧k.fits v∧f8 ks vs:=by
 cases cs with
 |nil=>exact h.elim
 |cons v vs=>exact⟨v,vs,rfl,h.1,h.2⟩

theorem pQ{cs:List Value}(h:f8 [] cs):cs=[]:=by
 cases cs with
 |nil=>rfl
 |cons v vs=>exact h.elim

theorem jL:∀{ks ls:List CK} {vs us:List Value},f8 ks vs→f8 ls us→f8 (ks++ls) (vs++us)
 | [],_,[],_,_,h=>h
 |_::_,_,_::_,_,h,h'=>⟨h.1,jL h.2 h'⟩
 | [],_,_::_,_,h,_=>h.elim
 |_::_,_,[],_,h,_=>h.elim

def tA(P:Program)(kd:TypeId→Option (List CK)):Nat→List Field→Option (List CK)
 |_,[]=>some []
 |off,f::fs=>match kd f.type with
  |some ks=>match decide (f.offset=off∧ks.length=P.cellsOf f.type) with
   |true=>match tA P kd (off+ks.length) fs with
    |some r=>some (ks++r)
    |none=>none
   |false=>none
  |none=>none

def tB(P:Program):Nat→TypeId→Option (List CK)
 |0,_=>none
 |d+1,t=>match P.underlying t with
  |some .bool=>some [.bool]
  |some (.int k)=>some [.int k]
  |some .string=>some [.str]
  |some (.struct fs)=>match tA P (tB P d) 0 fs.toList with
   |some ks=>match decide (ks.length=P.cellsOf t) with|true=>some ks|false=>none
   |none=>none
  |some (.array n e)=>match tB P d e with
   |some ks=>match decide (ks.length=P.cellsOf e∧n*ks.length=P.cellsOf t) with
    |true=>some ((List.replicate n ks).flatten)
    |false=>none
   |none=>none
  |_=>none

section
variable {P:Program} {H:Type} {enc:TypeId×Value→H} {w:World} {base:Nat} {spare:Nat→Bool} {held:Bool}

theorem tz{kd:TypeId→Option (List CK)}(ih:∀t ks,kd t=some ks→∀(fuel:Nat) (cs:List Value) (x:DataW H×List MemPlace),DataW.trod enc P w base spare held fuel t cs=some x→f8 ks cs):
  ∀(fs:List Field) (off:Nat) {ks:List CK},tA P kd off fs=some ks→∀{cs:List Value} {fuel:Nat},(∀f∈fs,∃b,DataW.trod enc P w base spare held fuel f.type ((cs.drop f.offset).take (P.cellsOf f.type))=some b)→cs.length=off+ks.length→f8 ks (cs.drop off)
 | [],off,ks,h,cs,fuel,_,hl=>by
  simp[tA] at h;subst h
  rw[List.drop_eq_nil_of_le (by simp at hl;omega)];trivial
 |f::fs,off,ks,h,cs,fuel,hall,hl=>by
  unfold tA at h
  split at h
  ·rename_i ks1 hk
   split at h
   ·rename_i hd
    obtain⟨hoff,hsz⟩:=of_decide_eq_true hd
    split at h
    ·rename_i r hr
     simp at h;subst h
     obtain⟨b,hb⟩:=hall f (by simp)
     have h1:=ih _ _ hk _ _ _ hb
     rw[List.length_append] at hl
     have h2:=tz ih fs (off+ks1.length) hr (cs:=cs) (fuel:=fuel) (fun g hg=>hall g (by simp[hg])) (by omega)
     rw[hoff,←hsz] at h1
     rw[←List.drop_drop] at h2
     have:=jL h1 h2
     rwa [List.take_append_drop] at this
    ·simp at h
   ·simp at h
  ·simp at h

theorem nR:∀(D:Nat) {t:TypeId} {ks:List CK},tB P D t=some ks→∀{fuel:Nat} {cs:List Value} {x:DataW H×List MemPlace},DataW.trod enc P w base spare held fuel t cs=some x→f8 ks cs
 |0,_,_,h,_,_,_,_=>by simp[tB] at h
 |D+1,t,ks,h,fuel,cs,x,hx=>by
  unfold tB at h
  split at h
  ·rename_i hu
   simp at h;subst h
   obtain⟨b,rfl,_⟩:=DataW.trod_bool hu hx
   exact⟨⟨b,rfl⟩,trivial⟩
  ·rename_i k hu
   simp at h;subst h
   obtain⟨n,rfl,_,hw⟩:=DataW.trod_int hu hx
   exact⟨⟨n,rfl,hw⟩,trivial⟩
  ·rename_i hu
   simp at h;subst h
   obtain⟨s,rfl,_,hs⟩:=DataW.trod_string hu hx
   exact⟨⟨s,rfl,hs⟩,trivial⟩
  ·rename_i fs hu
   split at h
   ·rename_i ks' hk
    split at h
    ·rename_i hlen
     have hlen:=of_decide_eq_true hlen
     simp at h;subst h
     obtain⟨xs,n,rfl,_,hcl,hxl,hall⟩:=DataW.trod_struct hu hx
     have:=tz (fun t ks hk fuel cs x hx=>nR D hk hx) fs.toList 0 hk (cs:=cs) (fuel:=n) (fun f hf=>by
      obtain⟨i,hi⟩:=List.mem_iff_getElem?.1 hf
      have hi':fs[i]?=some f:=by simpa using hi
      have hlt:i<xs.length:=by rw[hxl];exact (Array.getElem?_eq_some_iff.1 hi').1
      exact⟨_,(hall i f hi').trans (List.getElem?_eq_getElem hlt)⟩) (by omega)
     simpa using this
    ·simp at h
   ·simp at h
  ·rename_i n e hu
   split at h
   ·rename_i ks' hk
    split at h
    ·rename_i hlen
     have hlen:=of_decide_eq_true hlen
     simp at h;subst h
     obtain⟨xs,m,rfl,_,hcl,hxl,hall⟩:=DataW.trod_array hu hx
     have each:∀i,i<n→f8 ks' ((cs.drop (i*P.cellsOf e)).take (P.cellsOf e)):=fun i hi=>
      nR D hk ((hall i hi).trans (List.getElem?_eq_getElem (by omega)))
     have hsz:cs.length=n*P.cellsOf e:=by rw[hcl,←hlen.2,hlen.1]
     have key:∀(m:Nat),m≤n→f8 ((List.replicate m ks').flatten) (cs.drop ((n-m)*P.cellsOf e)):=by
      intro m
      induction m with
      |zero=>intro _;simp only[List.replicate_zero,List.flatten_nil,Nat.sub_zero];rw[List.drop_eq_nil_of_le (by omega)];trivial
      |succ m ih=>
       intro hm
       rw[List.replicate_succ,List.flatten_cons]
       have h1:=each (n-(m+1)) (by omega)
       have h2:=ih (by omega)
       have e1:n-m=(n-(m+1))+1:=by omega
       rw[e1,Nat.add_mul,Nat.one_mul,←List.drop_drop] at h2
       have:=jL h1 h2
       rwa [List.take_append_drop] at this
     have:=key n (Nat.le_refl _)
     simpa using this
    ·simp at h
   ·simp at h
  ·simp at h

theorem qv{t:TypeId}{D:Nat}{ks:List CK}(hk:tB P D t=some ks){r:Reach}{b0:Nat}{v:Value}{d:DataW H}{p:List MemPlace}(_hv:Value.okWide P w r b0 t v)(h:DataW.Trod enc P w base spare held t v d p):
  f8 ks v.cells.toList:=by
 obtain⟨fuel,hf⟩:=h
 exact nR D hk hf

theorem s5{t:TypeId}(ht:mQ P t=some true){r:Reach}{b0:Nat}{v:Value}(hv:Value.okWide P w r b0 t v):∃cs:List Value,v= .agg cs.toArray:=by
 unfold mQ at ht
 unfold Value.okWide at hv
 split at ht<;>simp_all
 ·obtain⟨cs,rfl,_⟩:=hv;exact⟨cs.toList,by simp⟩
 ·obtain⟨cs,rfl,_⟩:=hv;exact⟨cs.toList,by simp⟩

end

theorem HpR.nil{w:World}(hG:gl w.heap.size w):HpR w.heap.size [] [] w:=⟨rfl, .refl _,fun r k l h=>by simp[Hp.row] at h,fun r r' k k' l l' h=>by simp[Hp.row] at h,hG, .none fun r k h=>by simp[Hp.obj] at h⟩

def i9(v:AV)(_:Hp)(_:List Hint):Prop:=match v.asBool with|some (_,b)=>b=true|none=>False

def AV.pure1:AV→Bool
 | .lit _| .int _ _| .w64 _| .bool _| .val _| .func (.func _) [] []=>true
 |_=>false

theorem qq{ρ ρ':List Loc}{fn:Fn}{a b:List AV}{v:Value}(hp:(AV.func fn a b).pure1=true)(h:AVR ρ (.func fn a b) v):AVR ρ' (.func fn a b) v:=by
 cases h with
 |func h1 h2=>cases fn<;>cases a<;>cases b<;>first| (simp[AV.pure1] at hp;done)| (cases h1;cases h2;exact .func .nil .nil)

def AV.pure2:AV→Bool
 | .agg cs=>cs.all AV.pure1
 |x=>x.pure1

def AV.pure3:AV→Bool
 | .tuple cs=>cs.all AV.pure2
 |x=>x.pure2

theorem GA{ρ ρ':List Loc}{x:AV}{v:Value}(hp:x.pure1=true)(h:AVR ρ x v):AVR ρ' x v:=by
 cases h with
 |lit v=>exact .lit v
 |int k n=>exact .int k n
 |w64 x=>exact .w64 x
 |bool b=>exact .bool b
 |val v=>exact .val v
 |func h1 h2=>exact qq hp (.func h1 h2)
 |_=>simp[AV.pure1] at hp

theorem kT{p:AV→Bool}{ρ ρ':List Loc}(hp:∀{x:AV} {v:Value},p x=true→AVR ρ x v→AVR ρ' x v):∀{xs:List AV} {vs:List Value},xs.all p=true→AVRs ρ xs vs→AVRs ρ' xs vs
 |_,_,_, .nil=> .nil
 |_,_,hh, .cons h0 h1=>by
  simp only[List.all_cons,Bool.and_eq_true] at hh
  exact .cons (hp hh.1 h0) (kT hp hh.2 h1)

theorem jo{ρ ρ':List Loc}{x:AV}{v:Value}(hp:x.pure2=true)(h:AVR ρ x v):AVR ρ' x v:=by
 cases h with
 |agg h=>exact .agg (kT GA hp h)
 |lit v=>exact .lit v
 |int k n=>exact .int k n
 |w64 x=>exact .w64 x
 |bool b=>exact .bool b
 |val v=>exact .val v
 |func h1 h2=>exact qq hp (.func h1 h2)
 |_=>simp[AV.pure2,AV.pure1] at hp

theorem vQ{ρ ρ':List Loc}{x:AV}{v:Value}(hp:x.pure3=true)(h:AVR ρ x v):AVR ρ' x v:=by
 cases h with
 |tuple h=>exact .tuple (kT jo hp h)
 |agg h=>exact jo (x:= .agg _) hp (.agg h)
 |lit v=>exact .lit v
 |int k n=>exact .int k n
 |w64 x=>exact .w64 x
 |bool b=>exact .bool b
 |val v=>exact .val v
 |func h1 h2=>exact qq hp (.func h1 h2)
 |_=>simp[AV.pure3,AV.pure2,AV.pure1] at hp

def sL(F:List AV→Option (Prop×AV)):Spec:=fun args h K=>match (args.map canon).all AV.pure2 with
 |true=>match F (args.map canon) with
  |some (p,x)=>p∧K x h
  |none=>False
 |false=>False

def pZ(x:AV)(v:AV)(_:Hp)(_:List Hint):Prop:=kI v=x

theorem Aj{P:Program}{C:Call}(hC:COK P false C){f:FuncId}{F:List AV→Option (Prop×AV)}
  (h:∀args p x,F args=some (p,x)→p→x.pure3=true∧∃hs,C f args [] hs (pZ x)):eJ P f (sL F):=by
 intro args h' K hK B ρ w vs hH hv
 unfold sL at hK
 split at hK
 ·rename_i hall
  split at hK
  ·rename_i p x hF
   obtain⟨hp,hk⟩:=hK
   obtain⟨hx,hs,hc⟩:=h _ _ _ hF hp
   have hargs:AVRs [] (args.map canon) vs:=kT jo hall (jT hv)
   have conv:∀u w',(∃ρ' y h' hs',pZ x y h' hs'∧AVR ([]++ρ') y u∧HpR w.heap.size ([]++ρ') h' w'∧Bel (if false=true then bl w.heap.size else bl w.heap.size) w w'∧(false=true→([]:Hp)<+:h'))→
     ∃ρ' x h',K x h'∧AVR (ρ++ρ') x u∧HpR B (ρ++ρ') h' w'∧Bel B w w':=by
    rintro u w' ⟨ρ',y,h2,hs',hy,hr,_,hb,_⟩
    have hb:Bel (bl w.heap.size) w w':=by simpa using hb
    have:=oX hr
    rw[show kI y=x from hy] at this
    exact⟨[],x,h',hk,by simpa using vQ (ρ':=ρ) hx this,by simpa using hH.below hb,hb.mono hH.base⟩
   rcases hC f (args.map canon) [] hs _ hc w.heap.size [] w vs (HpR.nil (hH.glob.mono hH.base)) hargs with⟨hr,hcl⟩| ⟨v,w',hr,hl⟩
   ·exact .inl ⟨hr,hcl.mono fun e w' he=>by cases e with
     |returned v=>exact conv v w' he
     |panicked c=>exact he
     |outgrown=>exact he⟩
   ·exact .inr ⟨v,w',hr,conv v w' hl⟩
  ·exact hK.elim
 ·exact hK.elim

def sw:List (FuncId×Spec)→FuncId→Option Spec
 | [],_=>none
 | (g,s)::l,f=>match decide (f=g) with
  |true=>some s
  |false=>sw l f

theorem vJ{P:Program}:∀{l:List (FuncId×Spec)},(∀p∈l,eJ P p.1 p.2)→∀f sp,sw l f=some sp→eJ P f sp
 | [],_,f,sp,h=>by simp[sw] at h
 | (g,s)::l,hl,f,sp,h=>by
  unfold sw at h
  split at h
  ·rename_i hd
   have hd:=of_decide_eq_true hd
   simp at h;subst h;subst hd
   exact hl (f,s) (by simp)
  ·exact vJ (fun p hp=>hl p (by simp[hp])) f sp h

def lz:Spec:=sL fun args=>match args with
 | []=>some (True, .bool true)
 |_=>none

theorem KE{P:Program}{C:Call}(hC:COK P false C){f:FuncId}{hs:List Hint}(h:C f [] [] hs (pZ (.bool true))):eJ P f lz:=by
 refine Aj hC fun args p x hF _=> ?_
 split at hF
 ·simp at hF
  obtain⟨_,rfl⟩:=hF
  exact⟨rfl,hs,h⟩
 ·simp at hF

def run(l:List (FuncId×Spec))(P:Program):Call:=FP (sw l) P 12

theorem eS{P:Program}{l:List (FuncId×Spec)}(hl:∀p∈l,eJ P p.1 p.2)(hm:Fol P)(hg:noNG P=true):COK P false (run l P):=
 Cl (vJ hl) hm hg 12

end Go.Sx
