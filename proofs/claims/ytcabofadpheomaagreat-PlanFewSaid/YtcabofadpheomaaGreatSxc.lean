/-
 Texts in one: SxP SxS SxR.
-/
import Derived.Test.YtcabofadpheomaaGreatSxM
import Derived.Deep.Draws
import Derived.MapKept
import Derived.Deep.Slices
import Derived.Shelf.Spec.SlicesGrow

section
namespace Go.Sx
open Go.RowKit

section
variable {P:Program}

theorem kH{f:FuncId}{fn:Func}{c:Code}(hf:P.funcs[f]?=some fn)(hg:noNG P=true)(hb:fn.body=some c)(args:Array Value)(w:World):(callFunc f args).run P w= .ok (.enter f args) w:=by
 have hname : ¬ fn.name = "runtime.NumGoroutine" := by
  have hmem:fn∈P.funcs.toList:=List.mem_of_getElem? (i:=f) (by simpa using hf)
  have:=List.all_eq_true.1 hg fn hmem
  simpa [bne] using this
 simp[callFunc,hf,hname,hb,mark]

theorem AVRs.one_inv{ρ:List Loc}{x:AV}{vs:List Value}(h:AVRs ρ [x] vs):∃v,vs=[v]∧AVR ρ x v:=by
 cases h with|cons h0 h1=>cases h1;exact⟨_,rfl,h0⟩

theorem AVRs.two_inv{ρ:List Loc}{x y:AV}{vs:List Value}(h:AVRs ρ [x,y] vs):∃u v,vs=[u,v]∧AVR ρ x u∧AVR ρ y v:=by
 cases h with|cons h0 h1=>cases h1 with|cons h1 h2=>cases h2;exact⟨_,_,rfl,h0,h1⟩

theorem yf{ρ:List Loc}{k:IntKind}{n:Int}{v:Value}(h:AVR ρ (.int k n) v):v= .int k n:=by cases h;rfl
theorem Qu{ρ:List Loc}{u v:Value}(h:AVR ρ (.val u) v):v=u:=by cases h;rfl
theorem rC{ρ:List Loc}{x:BitVec 64}{v:Value}(h:AVR ρ (.w64 x) v):v= .int .u64 (x.toNat:Int):=by cases h;rfl

end

namespace M

end M

open M

end Go.Sx
end

section
namespace Go.Sx
open Go.RowKit Go.WideShapes

section
variable {P:Program} {H:Type} {enc:TypeId×Value→H} {w:World}

theorem AG{w:World}{b:Nat}{row:TypeId}{cells:Nat}(h:w.shape? b=some (row,cells)):∃cur fr,w.heap[b]?=some (.cells cur row fr):=by
 unfold World.shape? at h
 split at h
 ·rename_i c e fr hc
  simp at h
  obtain⟨rfl,_⟩:=h
  exact⟨c,fr,hc⟩
 ·simp at h

theorem pv{T:Type}(de:T→AV){t e:TypeId}{D:Nat}{ks:List CK}(ht:P.underlying t=some (.slice e))(hk:tB P D e=some ks)(hlen:ks.length=P.cellsOf e)
  (hde:∀cs,f8 ks cs→∃x:T,(de x).cells.length=ks.length∧(de x).sound=true∧AVRs [] (de x).cells cs)
  {r:Reach} {b0:Nat} {held:Bool} {v:Value} {d:DataW H} {p:List MemPlace} (hv:Value.okWide P w r b0 t v) (h:DataW.Trod enc P w 0 (fun _=>true) held t v d p) (ty:TypeId):
  ∃(l:Loc) (L:List T),L.length≤maxLen∧(∀(ρ:List Loc) (j:Nat),ρ[j]?=some l→AVR ρ (.vsl j 0 (L.map de).length) v)∧(l.ph=false→∀ρ,BlkR ρ w.heap.size w l ⟨false,ty,ks.length,true,L.map de⟩):=by
 obtain⟨a0,len,cap,rfl⟩:=okWide_slice ht hv
 obtain⟨fuel,hf⟩:=h
 rcases Deep.open_slice ht hf with⟨h0,_⟩| ⟨a,len',cap',m,n,D',Pl,hcs,_,hl,hm,hmm,_,hel⟩
 ·simp[Value.cells] at h0
  obtain⟨rfl,rfl,rfl⟩:=h0
  exact⟨⟨0,0,0,0,true⟩,[],by simp,fun ρ j _=> .vslN rfl,by simp⟩
 ·simp[Value.cells] at hcs
  obtain⟨rfl,rfl,rfl⟩:=hcs
  simp only[if_true] at hmm
  subst hmm
  unfold Value.okWide at hv
  rw[ht] at hv
  simp only[Cell.okWide,ht,Cell.ok] at hv
  obtain⟨_,_,_,hspot,row,cells,hsh,_⟩:=hv
  obtain⟨cur,fr,hrow⟩:=AG hsh
  obtain⟨b,off,spot⟩:=a
  simp only at hspot
  subst hspot
  --each element,read
  have each:∀i,i<len→∃x:T,(de x).cells.length=ks.length∧(de x).sound=true∧∀(o:Nat) c,(de x).cells[o]?=some c→∃u,cur[off+i*ks.length+o]?=some u∧AVR [] c u:=fun i hi=>by
   obtain⟨cs',h1,h2⟩:=hel i (by omega)
   obtain⟨_,hcl,hcell⟩:=World.cells?_some h1
   obtain⟨x,x1,x2,x3⟩:=hde cs' (nR D hk h2)
   refine⟨x,x1,x2,fun o c hc=> ?_⟩
   obtain⟨u,hu,hr⟩:=x3.get hc
   have ho:o<P.cellsOf e:=by rw[←hlen,←x1];exact (List.getElem?_eq_some_iff.1 hc).1
   have:=hcell o ho
   rw[hu] at this
   rw[gA,gA,cell_of_row w b _ cur row fr hrow] at this
   exact⟨u,by rw[hlen];exact this,hr⟩
  have each':∀i:Fin len,∃x:T,(de x).cells.length=ks.length∧(de x).sound=true∧∀(o:Nat) c,(de x).cells[o]?=some c→∃u,cur[off+i.val*ks.length+o]?=some u∧AVR [] c u:=fun i=>each i.val i.isLt
  let f:Fin len→T:=fun i=>Classical.choose (each' i)
  have hf:=fun i=>Classical.choose_spec (each' i)
  refine⟨⟨b,off,ks.length,m,false⟩,List.ofFn f,by rw[List.length_ofFn];omega,fun ρ j hj=> ?_,fun _ ρ=> ?_⟩
  ·rw[List.length_map,List.length_ofFn]
   exact .vslS (c:=m) ⟨hj,rfl⟩ hl (by simp) (fun _=>by simp)
  ·refine⟨rfl,cur,row,fr,hrow,fun i x hx=> ?_,by simp⟩
   rw[List.getElem?_map] at hx
   by_cases hi:i<len
   ·rw[List.getElem?_ofFn,dif_pos hi,Option.map_some,Option.some_inj] at hx
    subst hx
    obtain⟨q1,q2,q3⟩:=hf ⟨i,hi⟩
    exact⟨q1,q2,fun o c hc=>by
     obtain⟨u,hu,hr⟩:=q3 o c hc
     exact⟨u,hu,hr⟩⟩
   ·rw[List.getElem?_ofFn,dif_neg hi] at hx
    simp at hx

def gL(w:World)(ρ:List Loc)(h:Hp):Prop:=ρ.length=h.length∧(∀(r:Nat) (k:Blk),h[r]?=some (some k)→k.esz≠0)∧∀r k l,h.row r=some k→At ρ r l→k.wr=false∧∀ρ',BlkR ρ' w.heap.size w l k

theorem gL.nil{w:World}:gL w [] []:=⟨rfl,fun r k h=>by simp at h,fun r k l h=>by simp[Hp.row] at h⟩

theorem gL.cons{w:World}{ρ:List Loc}{h:Hp}(hR:gL w ρ h){k:Blk}{l:Loc}(hw:k.wr=false)(hk:l.ph=false→∀ρ',BlkR ρ' w.heap.size w l k)(hz:k.esz≠0:=by decide):gL w (l::ρ) (some k::h):=by
 refine⟨by simp[hR.1],fun r k' hr=> ?_, ?_⟩
 ·cases r with
  |zero=>simp at hr;subst hr;exact hz
  |succ r=>exact hR.2.1 r k' (by simpa using hr)
 rintro r k' l' hr ⟨hl,hp⟩
 cases r with
 |zero=>
  have h1:=eN.1 hr
  simp at h1 hl
  obtain⟨rfl,_⟩:=h1
  subst hl
  exact⟨hw,hk hp⟩
 |succ r=>exact hR.2.2 r k' l' (eN.2 (by simpa using eN.1 hr)) ⟨by simpa using hl,hp⟩

theorem gL.hpr{w:World}{ρ:List Loc}{h:Hp}(hR:gL w ρ h)(hG:gl w.heap.size w):HpR w.heap.size ρ h w:=
 ⟨hR.1, .refl _,fun r k l hk hl=>(hR.2.2 r k l hk hl).2 ρ,fun r r' k k' l l' hk _ hw _ hl _=>(by have:=(hR.2.2 r k l hk hl).1;rw[this] at hw;cases hw),hG, .none fun r k hk=>hR.2.1 r k (eR.1 hk).1 (eR.1 hk).2⟩

theorem nC{C:Call}(hC:COK P false C){f:FuncId}{args:List AV}{h0:Hp}{hs:List Hint}(h:C f args h0 hs i9){w:World}(hG:gl w.heap.size w){ρ:List Loc}(hR:gL w ρ h0){vs:List Value}(hv:AVRs ρ args vs)(hg:noNG P=true){fn:Func}(hf:P.funcs[f]?=some fn)(hb:fn.body.isSome=true):
  Calls P f vs.toArray w fun e w'=>e= .returned (.bool true)∧Below w.heap.size w w':=by
 have:=hC f args h0 hs i9 h w.heap.size ρ w vs (hR.hpr hG) hv
 rcases this with⟨hr,hc⟩| ⟨v,w',hr,_⟩
 ·refine hc.mono fun e w' he=> ?_
  cases e with
  |returned u=>
   obtain⟨ρ',x,h',hs',k,r,hh,b,_⟩:=he
   have b:Bel (bl w.heap.size) w w':=by simpa using b
   refine⟨?_,b.below⟩
   unfold i9 at k
   split at k
   ·rename_i s b hxb
    rw[gj r hxb,k]
   ·exact k.elim
  |panicked c=>exact he.elim
  |outgrown=>exact he.elim
 ·have hname : ¬ fn.name = "runtime.NumGoroutine" := by
   have hmem:fn∈P.funcs.toList:=List.mem_of_getElem? (i:=f) (by simpa using hf)
   have:=List.all_eq_true.1 hg fn hmem
   simpa [bne] using this
  obtain⟨c,hc⟩:=Option.isSome_iff_exists.1 hb
  simp[callFunc,hf,hc,hname] at hr

end
end Go.Sx
end

section
namespace Go.Sx
open Go.RowKit

section
variable {P:Program}

def tF(ty:TypeId)(esz bytes:Nat):Spec:=fun args h K=>
 match args with
 | [.lit (.slice none 0 0),x]=>match x.asInt with
  |some (_, .i64,n)=>(0≤n∧n*(bytes:Int)≤140737488355328∧n≤4611686018427387904)∧K (.vsl h.length 0 0) (h++[some ⟨true,ty,esz,true,[]⟩])
  |_=>False
 |_=>False

def Fs(P:Program)(ty:TypeId)(esz bytes:Nat):Bool:=match P.info? ty with
 |some i=>match i.zero with
  |some z=>decide (z.cells.size=i.size∧i.size=esz∧i.bytes=bytes∧0<esz)
  |none=>false
 |none=>false

theorem A4{ren:Go.Shelf.Ren}(L:Go.Proofs.Lays8.n4 P ren){f:FuncId}{ty:TypeId}{esz bytes:Nat}(hf4:ren.f 4=f)(ht:ren.t 25=ty)(hfit:Fs P ty esz bytes=true)
  (hg:noNG P=true) {fn:Func} (hf:P.funcs[f]?=some fn) (hb:fn.body.isSome=true):eJ P f (tF ty esz bytes):=by
 subst hf4
 subst ht
 obtain⟨i,z,hi,hz,hzs,rfl,rfl,hpos⟩:∃i z,P.info? (ren.t 25)=some i∧i.zero=some z∧z.cells.size=i.size∧i.size=esz∧i.bytes=bytes∧0<esz:=by
  unfold Fs at hfit
  split at hfit
  ·rename_i i hi
   split at hfit
   ·rename_i z hz
    rw[decide_eq_true_eq] at hfit
    exact⟨i,z,hi,hz,hfit⟩
   ·cases hfit
  ·cases hfit
 obtain⟨c,hc⟩:=Option.isSome_iff_exists.1 hb
 intro args h K hK B ρ w vs hH hv
 refine .inl ⟨kH (P:=P) hf hg hc _ _, ?_⟩
 unfold tF at hK
 split at hK
 ·rename_i x
  split at hK
  ·rename_i s n hx
   obtain⟨⟨h0,h1,h2⟩,hK⟩:=hK
   obtain⟨u,v,rfl,hu,hr⟩:=hv.two_inv
   cases hu
   obtain rfl:=eX hr hx
   obtain⟨m,rfl⟩:=Int.eq_ofNat_of_zero_le h0
   have h1:m*i.bytes≤140737488355328:=by
    have:((m*i.bytes:Nat):Int)≤140737488355328:=by rw[Int.natCast_mul];exact h1
    omega
   rcases Nat.eq_zero_or_pos m with rfl|hm
   ·refine (Go.Proofs.Any8.slices_Grow_room L none 0 0 0 w (by omega) (by omega) (by omega) (by omega)).mono ?_
    rintro e w' ⟨rfl,rfl⟩
    exact⟨[⟨0,0,0,0,true⟩],_,_,hK, .vslN rfl,hH.pushPh _ (Nat.ne_of_gt hpos) rfl, .refl _ _⟩
   ·refine (Go.Proofs.Any8.slices_Grow_grow L i z hi hz hpos none 0 0 m [] w (by omega) (by omega) (by rw[Nat.zero_add];exact h1) (by omega) (by simp) (fun _=>rfl) (by simp)).mono ?_
    rintro e w' ⟨rfl,rfl⟩
    have hcap:=grownCap_ge w (0+m) 0 (ren.t 25)
    have hcm:=grownCap_le_maxLen w (0+m) 0 (ren.t 25) (by unfold maxLen;omega)
    generalize grownCap w (0+m) 0 (ren.t 25)=G at hcap hcm⊢
    have hnr:=hH.newRow (k:=⟨true,ren.t 25,i.size,true,[]⟩) (cells:=([]:List Value).toArray++Builtin.zeroCells z.cells (0+m-0)++Builtin.zeroCells z.cells (G-(0+m))) (cap:=G) rfl (Nat.ne_of_gt hpos)
     .nil (by simp only[Array.size_append,List.size_toArray,size_zeroCells,hzs,List.length_nil,Nat.zero_add,←Nat.add_mul];congr 1;omega) hcm (by simp)
     (w':=w.drew.alloc (.cells (([]:List Value).toArray++Builtin.zeroCells z.cells (0+m-0)++Builtin.zeroCells z.cells (G-(0+m))) (ren.t 25))) rfl rfl rfl rfl (fun _=>Nat.le_succ _)
    refine⟨[⟨w.heap.size,0,i.size,G,false⟩],_,_,hK, ?_,hnr.1,hnr.2.mono hH.base⟩
    have hsl:=AVR.vslS (ρ:=ρ++[⟨w.heap.size,0,i.size,G,false⟩]) (r:=h.length) (i:=0) (len:=0) (l:=⟨w.heap.size,0,i.size,G,false⟩) (a:=⟨w.heap.size,0,none⟩) (c:=G)
     (At.new hH.len rfl) (by omega) (by simp) (fun _=>by simp)
    simpa using hsl
  ·exact hK.elim
 ·exact hK.elim

end
end Go.Sx
end

