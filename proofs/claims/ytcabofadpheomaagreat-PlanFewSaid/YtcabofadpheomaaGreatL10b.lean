/-
 Texts in one: L10K L10L L10N L10O L10S L10T.
-/
import Derived.Test.YtcabofadpheomaaGreatL10c
import Derived.WalkKit
import Derived.Maps.RangeRun
import Derived.Laws.ResultCell
import Derived.Maps.AppendAt
import Derived.StillTailTactics
import Derived.Test.YtcabofadpheomaaGreatL5a
import Derived.Test.YtcabofadpheomaaGreatSxU
import Derived.Test.YtcabofadpheomaaGreatSxc
import Derived.LoopTactic
import Derived.Test.YtcabofadpheomaaGreatL10a
import Derived.Test.YtcabofadpheomaaGreatMb
import Derived.Test.YtcabofadpheomaaGreatL4a

section
namespace Go.Proofs.YtcabofadpheomaaGreat.L1
open Go Go.Proofs Go.RowKit Go.Sx Go.Sx.M

theorem MapE.keys{w:World}{own:List Nat}{L:List En}{es:Array MapEntry}{clock:Nat}(h:MapE w own L es clock):∀e∈es.toList,∃q,e.key=eV q:=fun e he=>let ⟨p,h1,_⟩:=h.is e he;⟨p,h1⟩

theorem MapE.none{w:World}{own:List Nat}{L:List En}{es:Array MapEntry}{clock:Nat}(h:MapE w own L es clock){p:En}(hno:∀e∈es.toList,e.key≠eV p):plE p L=[]:=by
 refine List.eq_nil_iff_forall_not_mem.2 fun y hy=> ?_
 obtain⟨h1,rfl⟩:=iI.1 hy
 obtain⟨x,hx,hk⟩:=h.all y h1
 exact hno x hx hk

theorem Jc{w:World}{b:Nat}{own:List Nat}{L:List En}(hI:MapI w b own L)(p:En):
  ∃v,(Instr.lookup 134 (.map (some b)) (eV p) false).run Tryz.prog w= .ok v w∧iP w v (plE p L)∧∀g,v.ownBlock=some g→g∈own:=by
 obtain⟨es,clock,hb,hE,_⟩:=hI.map
 rcases uf p w es.toList (MapE.keys hE) with⟨h1,h2⟩| ⟨j,e,h1,h2,h3⟩
 ·refine⟨.slice none 0 0, ?_, ?_,fun g hg=>by cases hg⟩
  ·simp[Instr.lookup,run_underlying Tryz.underlying134,MapKept.run_getObj_map hb,hZ,h1,Result.andThen]
  ·rw[MapE.none hE h2]
   exact World.ownsRow_nil _ _ _ _
 ·have hm:e∈es.toList:=List.mem_of_getElem? h2
  obtain⟨q,hq,h4,h5⟩:=hE.is e hm
  obtain rfl:=iN (hq▸h3)
  refine⟨e.val, ?_,h4,h5⟩
  simp[Instr.lookup,run_underlying Tryz.underlying134,MapKept.run_getObj_map hb,hZ,h1,Result.andThen]

def ml(b:Nat)(es:Array MapEntry):List Nat:=b::es.toList.filterMap fun x=>x.val.ownBlock

theorem jr{b g:Nat}{es:Array MapEntry}:g∈ml b es↔g=b∨∃x∈es.toList,x.val.ownBlock=some g:=by
 unfold ml
 rw[List.mem_cons,List.mem_filterMap]

theorem MapI.ofE{w:World}{b:Nat}{L:List En}{es:Array MapEntry}{clock:Nat}(hb:w.heap[b]?=some (.map es clock))(h:MapE w (ml b es) L es clock):MapI w b (ml b es) L:=
 ⟨List.mem_cons_self,es,clock,hb,h,fun _g hg=>jr.1 hg⟩

theorem MapE.push{w w':World}{own:List Nat}{L L':List En}{es:Array MapEntry}{clock:Nat}(h:MapE w own L es clock){b:Nat}{p:En}{v:Value}(hno:∀e∈es.toList,e.key≠eV p)
  (hv:iP w' v (plE p L')) (hpl:∀q,q≠p→plE q L'=plE q L) (hw:∀g,(∃x∈es.toList,x.val.ownBlock=some g)→w'.heap[g]?=w.heap[g]?) (hap:∀x∈es.toList,∀g,x.val.ownBlock=some g→v.ownBlock≠some g):
  MapE w' (ml b (es.push ⟨eV p,v,clock⟩)) L' (es.push ⟨eV p,v,clock⟩) (clock+1):=by
 have hl:(es.push ⟨eV p,v,clock⟩).toList=es.toList++[⟨eV p,v,clock⟩]:=by simp
 refine⟨?_,fun x hx=> ?_,fun x hx=> ?_,fun y hy=> ?_, ?_⟩
 ·rw[hl,List.map_append,List.map_cons,List.map_nil,List.nodup_append]
  refine⟨h.born,by simp,fun a ha c hc e=> ?_⟩
  have hc:c=clock:=by simpa using hc
  obtain⟨x,hx,rfl⟩:=List.mem_map.1 ha
  have:=h.old x hx
  omega
 ·rw[hl] at hx
  rcases List.mem_append.1 hx with hx|hx
  ·exact Nat.lt_succ_of_lt (h.old x hx)
  ·rw[List.mem_singleton] at hx;subst hx;exact Nat.lt_succ_self _
 ·have hin:∀g,x.val.ownBlock=some g→g∈ml b (es.push ⟨eV p,v,clock⟩):=fun g hg=>jr.2 (.inr ⟨x,hx,hg⟩)
  rw[hl] at hx
  rcases List.mem_append.1 hx with hx|hx
  ·obtain⟨q,h1,h2,_⟩:=h.is x hx
   have hqp:q≠p:=fun e=>hno x hx (e▸h1)
   exact⟨q,h1,by rw[hpl q hqp];exact fF h2 fun g hg=>hw g ⟨x,hx,hg⟩,hin⟩
  ·rw[List.mem_singleton] at hx;subst hx
   exact⟨p,rfl,hv,hin⟩
 ·rw[hl]
  by_cases e:tdE y=p
  ·exact⟨⟨eV p,v,clock⟩,by simp,by rw[e]⟩
  ·have:y∈plE (tdE y) L':=iI.2 ⟨hy,rfl⟩
   rw[hpl _ e] at this
   obtain⟨x,hx,hk⟩:=h.all y (iI.1 this).1
   exact⟨x,List.mem_append_left _ hx,hk⟩
 ·rw[hl,List.pairwise_append]
  refine⟨h.apart,List.pairwise_singleton _ _,fun x hx y hy=> ?_⟩
  rw[List.mem_singleton] at hy;subst hy
  exact⟨hno x hx,hap x hx⟩

theorem MapE.modify{w w':World}{own:List Nat}{L L':List En}{es:Array MapEntry}{clock:Nat}(h:MapE w own L es clock){b:Nat}{p:En}{v:Value}{j:Nat}{e0:MapEntry}(hj:es.toList[j]?=some e0)(hk:e0.key=eV p)
  (hv:iP w' v (plE p L')) (hpl:∀q,q≠p→plE q L'=plE q L) (hw:∀g,(∃x∈es.toList,x.key≠eV p∧x.val.ownBlock=some g)→w'.heap[g]?=w.heap[g]?) (hap:∀x∈es.toList,x.key≠eV p→∀g,x.val.ownBlock=some g→v.ownBlock≠some g)
  {es':Array MapEntry} (he:es'.toList=es.toList.set j { e0 with val:=v}):MapE w' (ml b es') L' es' clock:=by
 obtain⟨hlt,hj2⟩:=List.getElem?_eq_some_iff.1 hj
 have hsplit:es.toList=es.toList.take j++e0::es.toList.drop (j+1):=by
  rw[←hj2,List.getElem_cons_drop,List.take_append_drop]
 have hl:es'.toList=es.toList.take j++{ e0 with val:=v}::es.toList.drop (j+1):=by
  rw[he,List.set_eq_take_append_cons_drop,if_pos hlt]
 generalize es.toList.take j=l1 at hsplit hl
 generalize es.toList.drop (j+1)=l2 at hsplit hl
 have hap0:=h.apart
 have hb0:=h.born
 rw[hsplit] at hap0 hb0
 obtain⟨q1,q2,q3⟩:=List.pairwise_append.1 hap0
 obtain⟨q4,q5⟩:=List.pairwise_cons.1 q2
 have key1:∀x∈l1,x.key≠eV p:=fun x hx e=>(q3 x hx e0 List.mem_cons_self).1 (e.trans hk.symm)
 have key2:∀x∈l2,x.key≠eV p:=fun x hx e=>(q4 x hx).1 (hk.trans e.symm)
 have mem1:∀x∈l1,x∈es.toList:=fun x hx=>by rw[hsplit];exact List.mem_append_left _ hx
 have mem2:∀x∈l2,x∈es.toList:=fun x hx=>by rw[hsplit];exact List.mem_append_right _ (List.mem_cons_of_mem _ hx)
 have mem':∀x∈es'.toList,(x∈es.toList∧x.key≠eV p)∨x={ e0 with val:=v}:=fun x hx=>by
  rw[hl] at hx
  rcases List.mem_append.1 hx with hx|hx
  ·exact .inl ⟨mem1 x hx,key1 x hx⟩
  ·rcases List.mem_cons.1 hx with rfl|hx
   ·exact .inr rfl
   ·exact .inl ⟨mem2 x hx,key2 x hx⟩
 refine⟨?_,fun x hx=> ?_,fun x hx=> ?_,fun y hy=> ?_, ?_⟩
 ·rw[hl]
  simpa using hb0
 ·rcases mem' x hx with⟨h1,_⟩|rfl
  ·exact h.old x h1
  ·exact h.old e0 (List.mem_of_getElem? hj)
 ·have hin:∀g,x.val.ownBlock=some g→g∈ml b es':=fun g hg=>jr.2 (.inr ⟨x,hx,hg⟩)
  rcases mem' x hx with⟨h0,h3⟩|rfl
  ·obtain⟨q,h1,h2,_⟩:=h.is x h0
   have hqp:q≠p:=fun e=>h3 (e▸h1)
   exact⟨q,h1,by rw[hpl q hqp];exact fF h2 fun g hg=>hw g ⟨x,h0,h3,hg⟩,hin⟩
  ·exact⟨p,hk,hv,hin⟩
 ·by_cases e:tdE y=p
  ·exact⟨{ e0 with val:=v},by rw[hl];simp,by rw[e];exact hk⟩
  ·have:y∈plE (tdE y) L':=iI.2 ⟨hy,rfl⟩
   rw[hpl _ e] at this
   obtain⟨x,hx,hkx⟩:=h.all y (iI.1 this).1
   refine⟨x, ?_,hkx⟩
   rw[hsplit] at hx
   rw[hl]
   rcases List.mem_append.1 hx with hx|hx
   ·exact List.mem_append_left _ hx
   ·rcases List.mem_cons.1 hx with rfl|hx
    ·exact absurd (iN (hkx.symm.trans hk)) e
    ·exact List.mem_append_right _ (List.mem_cons_of_mem _ hx)
 ·rw[hl,List.pairwise_append]
  refine⟨q1,List.pairwise_cons.2 ⟨fun x hx=>⟨fun e=>key2 x hx (e.symm.trans hk),fun g hg=> ?_⟩,q5⟩,fun x hx y hy=> ?_⟩
  ·intro hxg
   exact hap x (mem2 x hx) (key2 x hx) g hxg hg
  ·rcases List.mem_cons.1 hy with rfl|hy
   ·exact⟨fun e=>key1 x hx (e.trans hk),hap x (mem1 x hx) (key1 x hx)⟩
   ·exact q3 x hx y (List.mem_cons_of_mem _ hy)

open Go.ChangeMaps Go.MapKept Go.WideElems in
theorem L7{w:World}{b:Nat}{own:List Nat}{L:List En}(hI:MapI w b own L)(p:En):
  ∃v0 st es1 clock1,(Instr.mapEntry 134 (.map (some b)) (eV p)).run Tryz.prog w= .ok (.tuple #[v0,goInt st]) (setBlock w b (.map es1 clock1))∧iP w v0 (plE p L)∧(∀g,v0.ownBlock=some g→g∈own∧g≠b)∧
   ∀(w2:World) (v:Value) (L':List En),w2.heap[b]?=some (.map es1 clock1)→iP w2 v (plE p L')→(∀q,q≠p→plE q L'=plE q L)→(∀g∈own,g≠b→v0.ownBlock≠some g→w2.heap[g]?=w.heap[g]?)→(v.ownBlock=v0.ownBlock∨∀g,v.ownBlock=some g→g ∉ own)→
    ∃es' clock',(Instr.entryStore 134 (.map (some b)) (goInt st) v).run Tryz.prog w2= .ok () (setBlock w2 b (.map es' clock'))∧MapI (setBlock w2 b (.map es' clock')) b (ml b es') L'∧∀g∈ml b es',g∈own∨v.ownBlock=some g:=by
 obtain⟨es,clock,hb,hE,_⟩:=hI.map
 have hnb:∀x∈es.toList,∀g,x.val.ownBlock=some g→g∈own∧g≠b:=fun x hx g hg=>by
  obtain⟨q,_,h2,h3⟩:=hE.is x hx
  refine⟨h3 g hg,fun e=> ?_⟩
  subst e
  rcases h2.2 with⟨e,_⟩| ⟨g',cap,cur,e,_,hc,_⟩
  ·rw[e] at hg;cases hg
  ·rw[e] at hg;cases hg;rw[hb] at hc;cases hc
 have vnb:∀{w2:World} {v:Value} {l:List En} {es1:Array MapEntry} {c1:Nat},iP w2 v l→w2.heap[b]?=some (.map es1 c1)→∀g,v.ownBlock=some g→g≠b:=fun {w2 v l es1 c1} hv h2 g hg e=>by
  subst e
  rcases hv.2 with⟨e,_⟩| ⟨g',cap,cur,e,_,hc,_⟩
  ·rw[e] at hg;cases hg
  ·rw[e] at hg;cases hg;rw[h2] at hc;cases hc
 rcases uf p w es.toList (MapE.keys hE) with⟨h1,h2⟩| ⟨j,e0,h1,h2,h3⟩
 ·refine⟨.slice none 0 0,clock,es.push ⟨eV p, .slice none 0 0,clock⟩,clock+1, ?_,by rw[MapE.none hE h2];exact World.ownsRow_nil _ _ _ _,(fun g hg=>by cases hg),fun w2 v L' hw2 hv hpl hfr hown=>⟨es.push ⟨eV p,v,clock⟩,clock+1, ?_, ?_⟩⟩
  ·simp[Instr.mapEntry,run_underlying Tryz.underlying134,MapKept.run_getObj_map hb,hZ,h1,MapKept.run_setObj_map _ hb,Result.andThen,setBlock]
  ·have hidx:(es.push ⟨eV p, .slice none 0 0,clock⟩).findIdx? (fun e=>((e.born:Nat):Int)==((clock:Nat):Int))=some es.size:=by
    rw[findIdx_arr]
    have:=findIdx_born (l:=(es.push ⟨eV p, .slice none 0 0,clock⟩).toList) (j:=es.size) (e0:=⟨eV p, .slice none 0 0,clock⟩) (by
     simp only[Array.toList_push,List.map_append,List.map_cons,List.map_nil]
     refine List.nodup_append.2 ⟨hE.born,by simp,fun a ha c hc e1=> ?_⟩
     simp only[List.mem_singleton] at hc
     obtain⟨x,hx,rfl⟩:=List.mem_map.1 ha
     have:=hE.old x hx
     omega) (by simp)
    exact this
   have hmod:(es.push ⟨eV p, .slice none 0 0,clock⟩).modify es.size (fun e=>{ e with val:=v})=es.push ⟨eV p,v,clock⟩:=by
    apply Array.ext'
    rw[Array.toList_modify,Array.toList_push,Array.toList_push,←Array.length_toList,modify_last]
   simp[Instr.entryStore,MapKept.run_getObj_map hw2,asInt,asIntOf,goInt,hidx,hmod,MapKept.run_setObj_map _ hw2,Result.andThen,setBlock]
  ·have hs:=heap_setBlock_same hw2 (.map (es.push ⟨eV p,v,clock⟩) (clock+1))
   have ho:∀{i},i≠b→(setBlock w2 b (.map (es.push ⟨eV p,v,clock⟩) (clock+1))).heap[i]?=w2.heap[i]?:=fun h=>heap_setBlock_other hw2 _ h
   have hap:∀x∈es.toList,∀g,x.val.ownBlock=some g→v.ownBlock≠some g:=fun x hx g hg hvg=>by
    rcases hown with e|e
    ·rw[e] at hvg;cases hvg
    ·exact e g hvg (hnb x hx g hg).1
   refine⟨MapI.ofE hs (MapE.push hE (b:=b) h2 (fF hv fun g hg=>ho (vnb hv hw2 g hg)) hpl (fun g ⟨x,hx,hg⟩=>(ho (hnb x hx g hg).2).trans (hfr g (hnb x hx g hg).1 (hnb x hx g hg).2 (by simp[Value.ownBlock]))) hap),fun g hg=> ?_⟩
   rcases jr.1 hg with rfl| ⟨x,hx,hxg⟩
   ·exact .inl hI.mem
   ·rw[Array.toList_push] at hx
    rcases List.mem_append.1 hx with hx|hx
    ·exact .inl (hnb x hx g hxg).1
    ·rw[List.mem_singleton] at hx;subst hx;exact .inr hxg
 ·have hm:e0∈es.toList:=List.mem_of_getElem? h2
  obtain⟨q,hq,h4,h5⟩:=hE.is e0 hm
  obtain rfl:=iN (hq▸h3)
  have hj:es[j]?=some e0:=by simpa using h2
  have hsame:es.modify j (fun e=>{ e with key:=eV q})=es:=by
   apply Array.ext'
   rw[Array.toList_modify,modify_eq_set _ _ _ _ h2]
   have:({ e0 with key:=eV q}:MapEntry)=e0:=by rw[←h3]
   rw[this]
   exact set_self _ _ _ h2
  refine⟨e0.val,e0.born,es,clock, ?_,h4,hnb e0 hm,fun w2 v L' hw2 hv hpl hfr hown=>⟨es.modify j (fun e'=>{ e' with val:=v}),clock, ?_, ?_⟩⟩
  ·simp[Instr.mapEntry,run_underlying Tryz.underlying134,MapKept.run_getObj_map hb,hZ,h1,hj,h3,xm,hsame,MapKept.run_setObj_map _ hb,Result.andThen,setBlock]
  ·have hidx:es.findIdx? (fun e=>((e.born:Nat):Int)==((e0.born:Nat):Int))=some j:=by
    rw[findIdx_arr]
    exact findIdx_born hE.born h2
   simp[Instr.entryStore,MapKept.run_getObj_map hw2,asInt,asIntOf,goInt,hidx,MapKept.run_setObj_map _ hw2,Result.andThen,setBlock]
  ·have hs:=heap_setBlock_same hw2 (.map (es.modify j (fun e'=>{ e' with val:=v})) clock)
   have ho:∀{i},i≠b→(setBlock w2 b (.map (es.modify j (fun e'=>{ e' with val:=v})) clock)).heap[i]?=w2.heap[i]?:=fun h=>heap_setBlock_other hw2 _ h
   have hset:(es.modify j (fun e'=>{ e' with val:=v})).toList=es.toList.set j { e0 with val:=v}:=by
    rw[Array.toList_modify,modify_eq_set _ _ _ _ h2]
   have other:∀x∈es.toList,x.key≠eV q→∀g,x.val.ownBlock=some g→e0.val.ownBlock≠some g:=fun x hx hxk g hg heg=>by
    have hne:x≠e0:=fun e=>hxk (e▸h3)
    rcases List.pairwise_iff_getElem.1 hE.apart with hp
    obtain⟨i,hi,rfl⟩:=List.getElem_of_mem hx
    obtain⟨hjl,hje⟩:=List.getElem?_eq_some_iff.1 h2
    have hij:i≠j:=fun e=>hne (by subst e;exact hje)
    rcases Nat.lt_or_gt_of_ne hij with h|h
    ·exact (hp i j hi hjl h).2 g hg (by rw[hje];exact heg)
    ·exact (hp j i hjl hi h).2 g (by rw[hje];exact heg) hg
   have hap:∀x∈es.toList,x.key≠eV q→∀g,x.val.ownBlock=some g→v.ownBlock≠some g:=fun x hx hxk g hg hvg=>by
    rcases hown with e|e
    ·exact other x hx hxk g hg (e▸hvg)
    ·exact e g hvg (hnb x hx g hg).1
   refine⟨MapI.ofE hs (MapE.modify hE (b:=b) h2 h3 (fF hv fun g hg=>ho (vnb hv hw2 g hg)) hpl (fun g ⟨x,hx,hxk,hg⟩=>(ho (hnb x hx g hg).2).trans (hfr g (hnb x hx g hg).1 (hnb x hx g hg).2 (other x hx hxk g hg))) hap hset),fun g hg=> ?_⟩
   rcases jr.1 hg with rfl| ⟨x,hx,hxg⟩
   ·exact .inl hI.mem
   ·rw[hset] at hx
    rcases List.mem_or_eq_of_mem_set hx with hx|rfl
    ·exact .inl (hnb x hx g hxg).1
    ·exact .inr hxg

open Go.ChangeMaps Go.MapKept Go.WideElems in
theorem HP{w:World}{b:Nat}{own:List Nat}{L L':List En}(hI:MapI w b own L){p:En}(hne:plE p L≠[]){v v0:Value}(hl:(Instr.lookup 134 (.map (some b)) (eV p) false).run Tryz.prog w= .ok v0 w)(hv:iP w v (plE p L'))(hpl:∀q,q≠p→plE q L'=plE q L)(hown:v.ownBlock=v0.ownBlock):
  ∃es' clock',(Instr.mapUpdate 134 (.map (some b)) (eV p) v).run Tryz.prog w= .ok () (setBlock w b (.map es' clock'))∧MapI (setBlock w b (.map es' clock')) b (ml b es') L'∧∀g∈ml b es',g∈own:=by
 obtain⟨es,clock,hb,hE,_⟩:=hI.map
 have hnb:∀x∈es.toList,∀g,x.val.ownBlock=some g→g∈own∧g≠b:=fun x hx g hg=>by
  obtain⟨q,_,h2,h3⟩:=hE.is x hx
  refine⟨h3 g hg,fun e=> ?_⟩
  subst e
  rcases h2.2 with⟨e,_⟩| ⟨g',cap,cur,e,_,hc,_⟩
  ·rw[e] at hg;cases hg
  ·rw[e] at hg;cases hg;rw[hb] at hc;cases hc
 rcases uf p w es.toList (MapE.keys hE) with⟨h1,h2⟩| ⟨j,e0,h1,h2,h3⟩
 ·exact absurd (MapE.none hE h2) hne
 ·have hm:e0∈es.toList:=List.mem_of_getElem? h2
  obtain⟨q,hq,h4,h5⟩:=hE.is e0 hm
  obtain rfl:=iN (hq▸h3)
  have hj:es[j]?=some e0:=by simpa using h2
  have hv0:v0=e0.val:=by
   have:(Instr.lookup 134 (.map (some b)) (eV q) false).run Tryz.prog w= .ok e0.val w:=by
    simp[Instr.lookup,run_underlying Tryz.underlying134,MapKept.run_getObj_map hb,hZ,h1,Result.andThen]
   rw[this] at hl
   cases hl;rfl
  subst hv0
  refine⟨es.modify j (fun e'=>{ e' with key:=eV q,val:=v}),clock, ?_, ?_⟩
  ·simp[Instr.mapUpdate,run_underlying Tryz.underlying134,MapKept.run_getObj_map hb,hZ,h1,hj,h3,xm,MapKept.run_setObj_map _ hb,Result.andThen,setBlock]
  ·have hs:=heap_setBlock_same hb (.map (es.modify j (fun e'=>{ e' with key:=eV q,val:=v})) clock)
   have ho:∀{i},i≠b→(setBlock w b (.map (es.modify j (fun e'=>{ e' with key:=eV q,val:=v})) clock)).heap[i]?=w.heap[i]?:=fun h=>heap_setBlock_other hb _ h
   have hset:(es.modify j (fun e'=>{ e' with key:=eV q,val:=v})).toList=es.toList.set j { e0 with val:=v}:=by
    rw[Array.toList_modify,modify_eq_set _ _ _ _ h2,←h3]
   have other:∀x∈es.toList,x.key≠eV q→∀g,x.val.ownBlock=some g→e0.val.ownBlock≠some g:=fun x hx hxk g hg heg=>by
    have hne:x≠e0:=fun e=>hxk (e▸h3)
    rcases List.pairwise_iff_getElem.1 hE.apart with hp
    obtain⟨i,hi,rfl⟩:=List.getElem_of_mem hx
    obtain⟨hjl,hje⟩:=List.getElem?_eq_some_iff.1 h2
    have hij:i≠j:=fun e=>hne (by subst e;exact hje)
    rcases Nat.lt_or_gt_of_ne hij with h|h
    ·exact (hp i j hi hjl h).2 g hg (by rw[hje];exact heg)
    ·exact (hp j i hjl hi h).2 g (by rw[hje];exact heg) hg
   have vb:∀g,v.ownBlock=some g→g≠b:=fun g hg=>(hnb e0 hm g (hown▸hg)).2
   refine⟨MapI.ofE hs (MapE.modify hE (b:=b) h2 h3 (fF hv fun g hg=>ho (vb g hg)) hpl (fun g ⟨x,hx,hxk,hg⟩=>ho (hnb x hx g hg).2) (fun x hx hxk g hg hvg=>other x hx hxk g hg (hown▸hvg)) hset),fun g hg=> ?_⟩
   rcases jr.1 hg with rfl| ⟨x,hx,hxg⟩
   ·exact hI.mem
   ·rw[hset] at hx
    rcases List.mem_or_eq_of_mem_set hx with hx|rfl
    ·exact (hnb x hx g hxg).1
    ·exact (hnb e0 hm g (hown▸hxg)).1

theorem FU{w w':World}{n:Nat}(h:Below n w w')(hd:w.drawn≤w'.drawn):Bel (bl n) w w':=⟨⟨h.os,h.tape,h.output,h.size,fun j hj=>h.block j hj⟩,fun _=>hd⟩

def Pv:Option En→Value
 |some y=> .tuple #[eV y, .bool true]
 |none=> .tuple #[eV ⟨0#64,0#64,0#64,0#64,0,0⟩, .bool false]

theorem t8:∀{l:List En} {i:Nat} {y:En},l[i]?=some y→∀(k:Nat) (u:Value),(encV y)[k]?=some u→(l.flatMap encV)[i*6+k]?=some u
 | [],i,y,h,_,_,_=>by simp at h
 |x::l,0,y,h,k,u,hu=>by
  simp at h;subst h
  rw[List.flatMap_cons,Nat.zero_mul,Nat.zero_add,List.getElem?_append_left (List.getElem?_eq_some_iff.1 hu).1]
  exact hu
 |x::l,i+1,y,h,k,u,hu=>by
  rw[List.flatMap_cons,List.getElem?_append_right (by show (encV x).length≤_;show 6≤_;omega)]
  have:(i+1)*6+k-(encV x).length=i*6+k:=by show (i+1)*6+k-6=_;omega
  rw[this]
  exact t8 (by simpa using h) k u hu

theorem E3{w:World}{v:Value}{l:List En}(h:iP w v l)(hne:l≠[]):∃g cap,v= .slice (some ⟨g,0,none⟩) l.length cap∧l.length≤cap∧g<w.heap.size∧∀i y,l[i]?=some y→∀k u,(encV y)[k]?=some u→w.cell? ⟨g,i*6+k,none⟩=some u:=by
 rcases h.2 with⟨_,h0⟩| ⟨g,cap,cur,rfl,_,hg,h1,h2,h3,h4⟩
 ·exact absurd (List.length_eq_zero_iff.1 h0) hne
 ·refine⟨g,cap,rfl,h1,(Array.getElem?_eq_some_iff.1 hg).1,fun i y hi k u hu=> ?_⟩
  have:=World.ownsRow.cells h (g:=g) rfl (i*6+k) u (t8 hi k u hu)
  have hadd:(⟨g,0,none⟩:Addr).add (i*6+k)=⟨g,i*6+k,none⟩:=by unfold Addr.add;split<;>simp_all
  rwa [hadd] at this

set_option maxRecDepth 100000 in
theorem Gj{w:World}{b:Nat}{own:List Nat}{L:List En}(hI:MapI w b own L)(p:En)(hL:L.length≤1000000):
  Calls Tryz.prog 70 #[.map (some b),eV p] w fun e w'=>e= .returned (Pv (fM p L))∧Bel (bl w.heap.size) w w':=by
 have hframe:∀(o1 o2:Obj),MapI ((w.alloc o1).alloc o2) b own L:=fun o1 o2=>by
  obtain⟨es,clock,hb,hE,h5⟩:=hI.map
  have hold:∀g,g<w.heap.size→((w.alloc o1).alloc o2).heap[g]?=w.heap[g]?:=fun g hg=>(Below.heap_alloc _ _ _ (by simp;omega)).trans (Below.heap_alloc _ _ _ hg)
  refine⟨hI.mem,es,clock,(hold b (Array.getElem?_eq_some_iff.1 hb).1).trans hb,hE.frame fun g ⟨x,hx,hg⟩=>hold g ?_,h5⟩
  obtain⟨q,_,h2,_⟩:=hE.is x hx
  exact (h2.lt g hg).2
 obtain⟨v,hrun,hv,_⟩:=Jc (hframe (.cells (encV p).toArray 44) (.cells #[.int .u64 0, .int .u64 0, .int .u64 0, .int .u64 0, .int .i64 0, .int .i64 0] 44)) p
 have hlast:=nK (p:=p) (L:=L)
 have hlen:(plE p L).length≤1000000:=by
  unfold plE
  rw[List.length_reverse]
  exact Nat.le_trans (List.length_filter_le _ _) hL
 generalize plE p L=l at hv hlast hlen
 obtain⟨x1,x2,x3,x4,x5,x6,hp⟩:∃x1 x2 x3 x4 x5 x6:Int,eV p= .agg #[.int .u64 x1, .int .u64 x2, .int .u64 x3, .int .u64 x4, .int .i64 x5, .int .i64 x6]:=⟨_,_,_,_,_,_,rfl⟩
 have hp2:(encV p).toArray= #[.int .u64 x1, .int .u64 x2, .int .u64 x3, .int .u64 x4, .int .i64 x5, .int .i64 x6]:=Value.agg.inj hp
 rw[hp2,hp] at hrun
 rw[hp2] at hv
 rw[hp]
 by_cases hl:l=[]
 ·subst hl
  rw[←hlast]
  have:∃a c,v= .slice a 0 c:=by
   rcases hv.2 with⟨rfl,_⟩| ⟨g,cap,cur,rfl,_⟩
   ·exact⟨_,_,rfl⟩
   ·exact⟨_,_,rfl⟩
  obtain⟨a,c,rfl⟩:=this
  have hres:Tryz.f70.results= #[.cell 4 44, .tmp 5]:=by kernel_rfl
  go_enter Tryz.func70,Tryz.ntmps70
  go_wp2
  refine bodyPost_ret (v:= .tuple #[.agg #[.int .u64 0, .int .u64 0, .int .u64 0, .int .u64 0, .int .i64 0, .int .i64 0], .bool false]) (by rw[results_cell_tmp hres];simp[go_sem]) rfl ?_
  exact⟨rfl,FU (((Below.refl _ w).alloc (Nat.le_refl _) _).alloc (by simp) _) (Nat.le_refl _)⟩
 ·obtain⟨g,cap,rfl,hcap,hg,hc⟩:=E3 hv hl
  obtain⟨m,hm⟩:∃m,l.length=m+1:=⟨l.length-1,by have:=List.length_pos_iff.2 hl;omega⟩
  obtain⟨y,hy⟩:∃y,l[m]?=some y:=⟨l[m]'(by omega),List.getElem?_eq_getElem _⟩
  rw[←hlast,List.getLast?_eq_getElem?,hm,Nat.add_sub_cancel,hy]
  obtain⟨y1,y2,y3,y4,y5,y6,hyv⟩:∃y1 y2 y3 y4 y5 y6:Int,encV y=[.int .u64 y1, .int .u64 y2, .int .u64 y3, .int .u64 y4, .int .i64 y5, .int .i64 y6]:=⟨_,_,_,_,_,_,rfl⟩
  have hc0:=hc m y hy 0 (.int .u64 y1) (by rw[hyv];rfl)
  rw[Nat.add_zero] at hc0
  have hc1:=hc m y hy 1 (.int .u64 y2) (by rw[hyv];rfl)
  have hc2:=hc m y hy 2 (.int .u64 y3) (by rw[hyv];rfl)
  have hc3:=hc m y hy 3 (.int .u64 y4) (by rw[hyv];rfl)
  have hc4:=hc m y hy 4 (.int .i64 y5) (by rw[hyv];rfl)
  have hc5:=hc m y hy 5 (.int .i64 y6) (by rw[hyv];rfl)
  have hyE:eV y= .agg #[.int .u64 y1, .int .u64 y2, .int .u64 y3, .int .u64 y4, .int .i64 y5, .int .i64 y6]:=by unfold eV;rw[hyv]
  rw[hm] at hrun hlen
  clear hc hv hlast hy hyv hframe hI hp hp2
  simp only[Pv,hyE]
  have hres:Tryz.f70.results= #[.cell 4 44, .tmp 5]:=by kernel_rfl
  go_enter Tryz.func70,Tryz.ntmps70
  go_wp2
  refine bodyPost_ret (v:= .tuple #[.agg #[.int .u64 y1, .int .u64 y2, .int .u64 y3, .int .u64 y4, .int .i64 y5, .int .i64 y6], .bool true]) (by rw[results_cell_tmp hres];simp[go_sem]) rfl ?_
  exact⟨rfl,FU (((Below.refl _ w).alloc (Nat.le_refl _) _).alloc (by simp) _) (Nat.le_refl _)⟩

theorem Ju:∃i:TypeInfo,Tryz.prog.info? 44=some i∧i.zero=some (.agg #[.int .u64 0, .int .u64 0, .int .u64 0, .int .u64 0, .int .i64 0, .int .i64 0])∧i.size=6∧i.bytes=48:=by
 have h:(Tryz.prog.info? 44).map (fun i=>(i.zero,i.size,i.bytes))=some (some (.agg #[.int .u64 0, .int .u64 0, .int .u64 0, .int .u64 0, .int .i64 0, .int .i64 0]),6,48):=by kernel_rfl
 obtain⟨i,h1,h2⟩:=Option.map_eq_some_iff.1 h
 simp only[Prod.mk.injEq] at h2
 exact⟨i,h1,h2⟩

theorem ng:∀l:List En,(l.flatMap encV).length=l.length*6
 | []=>rfl
 |x::l=>by
  rw[List.flatMap_cons,List.length_append,ng l,List.length_cons]
  show 6+_=_
  omega

theorem BD(l:List En):∀u∈l.flatMap encV,u.oneCell'=true:=by
 intro u hu
 obtain⟨x,_,hx⟩:=List.mem_flatMap.1 hu
 simp only[encV,List.mem_cons,List.not_mem_nil,or_false] at hx
 rcases hx with rfl|rfl|rfl|rfl|rfl|rfl<;>rfl

theorem KI{w:World}{v:Value}{l ys:List En}(hv:iP w v l)(ty:TypeId){a:Addr}{m c:Nat}(hm:ys.length=m)(hc:∀j u,(ys.flatMap encV)[j]?=some u→w.cell? (a.add j)=some u)(hl:l.length+m≤1000000):
  ∃v' w',(Builtin.append_ #[29,29] ty #[v, .slice (some a) m c]).run Tryz.prog w= .ok v' w'∧iP w' v' (l++ys)∧w.grownBy w' v.ownBlock∧w.drawn≤w'.drawn∧(v'.ownBlock=v.ownBlock∨v'.ownBlock=some w.heap.size):=by
 obtain⟨i,hi,hz,hsz,hby⟩:=Ju
 have hnl:(ys.flatMap encV).length=m*6:=by rw[ng,hm]
 obtain⟨v',w',h1,h2,h3,_,h5⟩:=run_append_own_at (P:=Tryz.prog) w 0 29 ty 44 i _ 6 48 Tryz.underlying29 hi hz hsz hby rfl (by omega) v l.length (l.flatMap encV) hv a m c (ys.flatMap encV) hnl hc (BD ys) (by unfold maxLen;omega) (by omega) (Nat.zero_le _)
 refine⟨v',w',h1, ?_,h3, ?_,h5⟩
 ·unfold iP
  rw[List.length_append,hm,List.flatMap_append]
  exact h2
 ·rcases hv.2 with⟨rfl,h0⟩| ⟨g,cap,cur,rfl,hbg,hg,hnc,hcm,hcs,htake⟩
  ·by_cases hm0:m=0
   ·subst hm0
    have:(Builtin.append_ #[29,29] ty #[.slice none 0 0, .slice (some a) 0 c]).run Tryz.prog w= .ok (.slice none 0 0) w:=by
     simp[Builtin.append_,run_underlying Tryz.underlying29,sizeOf,typeInfo,hi,Builtin.lenOf,Builtin.firstCells,loadCells,loadCellsFrom]
    rw[this] at h1
    cases h1;exact Nat.le_refl _
   ·have hr:=run_append_nil (P:=Tryz.prog) w 29 ty 44 i _ Tryz.underlying29 hi hz a m c (ys.flatMap encV) (by rw[hsz];exact hnl) hc (by omega) (by omega) (by rw[hby];omega)
    rw[hr] at h1
    cases h1;simp
  ·by_cases hroom:l.length+m≤cap
   ·have hr:=run_append_room (P:=Tryz.prog) w 29 ty 44 i Tryz.underlying29 hi g l.length cap cur hg a m c (ys.flatMap encV) (by rw[hsz];exact hnl) hc (BD ys) hroom (by rw[hsz,hnl,hcs];omega)
    rw[hr] at h1
    cases h1;simp
   ·have hr:=run_append_grow (P:=Tryz.prog) w 29 ty 44 i _ Tryz.underlying29 hi hz ⟨g,0,none⟩ l.length cap (l.flatMap encV) (by rw[hsz,ng]) (World.ownsRow.cells hv rfl) a m c (ys.flatMap encV) (by rw[hsz];exact hnl) hc (by omega) (by omega) (by rw[hby];exact growslice_fits (by omega) (by omega))
    rw[hr] at h1
    cases h1;simp

section
variable {ops:Array Oper} {rest:List Oper} {o:Oper} {a:Act} {Q:Exit→Act→World→Prop} {w:World}

theorem mw{P:Program}(hgd:o.guard=none)(s x:Operand)(t:TypeId)(ho:o.op= .call { callee:= .builtin .append,args:= #[s,x],argTypes:= #[t,t]}){v xv v':Value}{w':World}(hs:a.eval s=v)(hx:a.eval x=xv)
  (hr:(Builtin.append_ #[t,t] o.type #[v,xv]).run P w= .ok v' w') (h:wpList P ops Q rest (a.put o.dst v') w'):wpList P ops Q (o::rest) a w:=by
 refine wpList_plain hgd fun K hK=> ?_
 unfold Oper.wp execOp
 simp only[ho,resolve,invoke,builtin,Sem.run_bind,Sem.run_pure,Result.andThen_ok,List.map_toArray,List.map_cons,List.map_nil,hs,hx,hr]
 exact hK _ _ h

theorem mh(hgd:o.guard=none)(s x:Operand)(ho:o.op= .call { callee:= .builtin .append,args:= #[s,x],argTypes:= #[29,29]}){v:Value}{l ys:List En}(hs:a.eval s=v)(hv:iP w v l)
  {ad:Addr} {m c:Nat} (hx:a.eval x= .slice (some ad) m c) (hm:ys.length=m) (hc:∀j u,(ys.flatMap encV)[j]?=some u→w.cell? (ad.add j)=some u) (hl:l.length+m≤1000000)
  (h:∀v' w',iP w' v' (l++ys)→w.grownBy w' v.ownBlock→w.drawn≤w'.drawn→(v'.ownBlock=v.ownBlock∨v'.ownBlock=some w.heap.size)→wpList Tryz.prog ops Q rest (a.put o.dst v') w'):wpList Tryz.prog ops Q (o::rest) a w:=by
 obtain⟨v',w',hr,h2,h3,h4,h5⟩:=KI hv o.type hm hc hl
 exact mw hgd s x 29 ho hs hx hr (h v' w' h2 h3 h4 h5)

open Go.ChangeMaps Go.MapKept in
theorem sf(hgd:o.guard=none)(m x:Operand)(ho:o.op=Op.mapEntry 134 m x){b:Nat}{own:List Nat}{L:List En}{p:En}{kv:Value}(hkv:kv=eV p)(hm:a.eval m= .map (some b))(hx:a.eval x=kv)(hI:MapI w b own L)
  (h:∀v0 st w4,iP w4 v0 (plE p L)→(∀g,v0.ownBlock=some g→g∈own∧g≠b)→w.grownBy w4 (some b)→w4.heap.size=w.heap.size→w4.drawn=w.drawn→
   (∀(w2:World) (v:Value) (L':List En),w2.heap[b]?=w4.heap[b]?→iP w2 v (plE p L')→(∀q,q≠p→plE q L'=plE q L)→(∀g∈own,g≠b→v0.ownBlock≠some g→w2.heap[g]?=w4.heap[g]?)→(v.ownBlock=v0.ownBlock∨∀g,v.ownBlock=some g→g ∉ own)→
    ∃w3 own',(Instr.entryStore 134 (.map (some b)) (goInt st) v).run Tryz.prog w2= .ok () w3∧MapI w3 b own' L'∧(∀g∈own',g∈own∨v.ownBlock=some g)∧w2.grownBy w3 (some b)∧w3.heap.size=w2.heap.size∧w3.drawn=w2.drawn)→
   wpList Tryz.prog ops Q rest (a.put o.dst (.tuple #[v0,goInt st])) w4):wpList Tryz.prog ops Q (o::rest) a w:=by
 refine wpList_plain hgd fun K hK=> ?_
 obtain⟨v0,st,es1,c1,hr,h1,h2,h3⟩:=L7 hI p
 obtain⟨es,clock,hb,_⟩:=hI.map
 subst hkv
 have grow:∀{W:World} {l:Array MapEntry} {c:Nat} (o':Obj),W.heap[b]?=some (.map l c)→W.grownBy (setBlock W b o') (some b)∧(setBlock W b o').heap.size=W.heap.size∧(setBlock W b o').drawn=W.drawn:=fun o' hb=>
  ⟨⟨rfl,rfl,rfl,by simp[setBlock],fun i _ hi=>heap_setBlock_other hb _ fun e=>hi (by rw[e])⟩,by simp[setBlock],rfl⟩
 obtain⟨q1,q2,q3⟩:=grow (.map es1 c1) hb
 unfold Oper.wp
 simp[execOp,ho,hm,hx,hr,Result.andThen]
 refine hK _ _ (h v0 st _ (fF h1 fun g hg=>heap_setBlock_other hb _ (h2 g hg).2) h2 q1 q2 q3 fun w2 v L' e1 e2 e3 e4 e5=> ?_)
 rw[heap_setBlock_same hb] at e1
 obtain⟨es',c',k1,k2,k3⟩:=h3 w2 v L' e1 e2 e3 (fun g hg hgb hgv=>(e4 g hg hgb hgv).trans (heap_setBlock_other hb _ hgb)) e5
 obtain⟨r1,r2,r3⟩:=grow (.map es' c') e1
 exact⟨_,_,k1,k2,k3,r1,r2,r3⟩

open Go.ChangeMaps in
theorem se(hgd:o.guard=none)(m s x:Operand)(ho:o.op=Op.entryStore 134 m s x){b:Nat}{sv:Value}{v:Value}{w':World}(hr:(Instr.entryStore 134 (.map (some b)) sv v).run Tryz.prog w= .ok () w')(hm:a.eval m= .map (some b))(hs:a.eval s=sv)(hx:a.eval x=v)
  (h:wpList Tryz.prog ops Q rest (a.put o.dst undef) w'):wpList Tryz.prog ops Q (o::rest) a w:=by
 refine wpList_plain hgd fun K hK=> ?_
 unfold Oper.wp
 simp[execOp,ho,hm,hs,hx,hr,Result.andThen]
 exact hK _ _ h
end

def CH:Prop:=∀(W:World) (x:En),Calls Tryz.prog 71 #[eV x] W fun e W'=>e= .returned (eV (tdE x))∧Bel (bl W.heap.size) W W'

theorem zC{w:World}{v:Value}{x1 x2 x3 x4 x5 x6:Int}(hT2:∀W,Calls Tryz.prog 71 #[.agg #[.int .u64 x1, .int .u64 x2, .int .u64 x3, .int .u64 x4, .int .i64 x5, .int .i64 x6]] W fun e W'=>e= .returned v∧Bel (bl W.heap.size) W W'):
  Calls Tryz.prog 71 #[.agg #[.int .u64 x1, .int .u64 x2, .int .u64 x3, .int .u64 x4, .int .i64 x5, .int .i64 x6]] (w.alloc (.cells #[.int .u64 x1, .int .u64 x2, .int .u64 x3, .int .u64 x4, .int .i64 x5, .int .i64 x6] 44)) fun e W1=>e= .returned v∧Bel (bl w.heap.size) w W1∧
   w.heap.size<W1.heap.size∧W1.cell? ⟨w.heap.size,0,none⟩=some (.int .u64 x1)∧W1.cell? ⟨w.heap.size,1,none⟩=some (.int .u64 x2)∧W1.cell? ⟨w.heap.size,2,none⟩=some (.int .u64 x3)∧
   W1.cell? ⟨w.heap.size,3,none⟩=some (.int .u64 x4)∧W1.cell? ⟨w.heap.size,4,none⟩=some (.int .i64 x5)∧W1.cell? ⟨w.heap.size,5,none⟩=some (.int .i64 x6):=by
 refine (hT2 _).mono ?_
 rintro e W1 ⟨rfl,hb1⟩
 have hlt0:w.heap.size< (w.alloc (.cells #[.int .u64 x1, .int .u64 x2, .int .u64 x3, .int .u64 x4, .int .i64 x5, .int .i64 x6] 44)).heap.size:=by rw[World.size_alloc];omega
 have g0:W1.heap[w.heap.size]?=some (.cells #[.int .u64 x1, .int .u64 x2, .int .u64 x3, .int .u64 x4, .int .i64 x5, .int .i64 x6] 44):=(hb1.block w.heap.size hlt0).trans (heap_alloc_new w _)
 have h0:Bel (bl w.heap.size) w (w.alloc (.cells #[.int .u64 x1, .int .u64 x2, .int .u64 x3, .int .u64 x4, .int .i64 x5, .int .i64 x6] 44)):=FU ((Below.refl _ w).alloc (Nat.le_refl _) _) (Nat.le_refl _)
 refine⟨rfl,h0.trans (hb1.mono (iw (Nat.le_of_lt hlt0))),Nat.lt_of_lt_of_le hlt0 hb1.size, ?_, ?_, ?_, ?_, ?_, ?_⟩<;>simp[World.cell?,g0]

open Go.ChangeMaps in
set_option maxRecDepth 100000 in
theorem Gz(hT:CH){w:World}{b:Nat}{own:List Nat}{L:List En}(hI:MapI w b own L)(hown:∀g∈own,g<w.heap.size)(x:En)(hs:Sorted L)(hle:∀y∈L,tdE y=tdE x→cpE x y≤0)(hL:L.length<1000000):
  Calls Tryz.prog 69 #[.map (some b),eV x] w fun e w'=>e= .returned (.tuple #[])∧∃own',MapI w' b own' (lK x L)∧(∀g∈own',g<w'.heap.size∧(g∈own∨w.heap.size≤g))∧Bel (fun g=>g<w.heap.size∧g ∉ own) w w':=by
 have hlen:(plE (tdE x) L).length≤L.length:=by
  unfold plE
  rw[List.length_reverse]
  exact List.length_filter_le _ _
 have hpl:=EZ hs hle
 have hpl2:∀q,q≠tdE x→plE q (lK x L)=plE q L:=fun q hq=>Df hs hq
 have hframe:∀{W:World},(∀g,g<w.heap.size→W.heap[g]?=w.heap[g]?)→MapI W b own L:=fun {W} hold=>by
  obtain⟨es,clock,hb,hE,h5⟩:=hI.map
  refine⟨hI.mem,es,clock,(hold b (Array.getElem?_eq_some_iff.1 hb).1).trans hb,hE.frame fun g ⟨x,hx,hg⟩=>hold g ?_,h5⟩
  obtain⟨q,_,h2,_⟩:=hE.is x hx
  exact (h2.lt g hg).2
 have hT2:∀W,Calls Tryz.prog 71 #[eV x] W fun e W'=>e= .returned (eV (tdE x))∧Bel (bl W.heap.size) W W':=fun W=>hT W x
 generalize tdE x=p at hT2 hpl hpl2 hlen
 obtain⟨x1,x2,x3,x4,x5,x6,hx⟩:∃x1 x2 x3 x4 x5 x6:Int,encV x=[.int .u64 x1, .int .u64 x2, .int .u64 x3, .int .u64 x4, .int .i64 x5, .int .i64 x6]:=⟨_,_,_,_,_,_,rfl⟩
 obtain⟨t1,t2,t3,t4,t5,t6,hp⟩:∃t1 t2 t3 t4 t5 t6:Int,eV p= .agg #[.int .u64 t1, .int .u64 t2, .int .u64 t3, .int .u64 t4, .int .i64 t5, .int .i64 t6]:=⟨_,_,_,_,_,_,rfl⟩
 have hxv:eV x= .agg #[.int .u64 x1, .int .u64 x2, .int .u64 x3, .int .u64 x4, .int .i64 x5, .int .i64 x6]:=by unfold eV;rw[hx]
 rw[hp,hxv] at hT2
 have hT3:=zC (w:=w) hT2
 rw[hxv]
 go_enter Tryz.func69,Tryz.ntmps69
 go_wp2_with (first
  | (go_at_call 71;refine hT3.mono ?_;rintro e W1 ⟨rfl,hb1,hlt,c0,c1,c2,c3,c4,c5⟩)
  | (refine sf (own:=own) (L:=L) rfl _ _ rfl hp.symm rfl rfl (hframe ?_) ?_)
  |go_in)
 ·intro g hg
  have h1:g<W1.heap.size:=Nat.lt_trans hg hlt
  rw[heap_alloc_old _ _ (by rw[World.size_alloc];omega),heap_alloc_old _ _ h1]
  exact hb1.block g hg
 ·intro v0 st w4 hv0 hb0 hg4 hs4 hd4 hstore
  have hs4':w4.heap.size=W1.heap.size+2:=by omega
  have hold4:∀g,g<w.heap.size→g≠b→w4.heap[g]?=w.heap[g]?:=fun g hg hgb=>by
   have h1:g<W1.heap.size:=Nat.lt_trans hg hlt
   rw[hg4.block g (by rw[World.size_alloc,World.size_alloc];omega) (fun e=>hgb (Option.some.inj e)),heap_alloc_old _ _ (by rw[World.size_alloc];omega),heap_alloc_old _ _ h1]
   exact hb1.block g hg
  have hbw:b<w.heap.size:=hown b hI.mem
  have hnew:w4.heap[W1.heap.size+1]?=some (.cells #[.int .u64 x1, .int .u64 x2, .int .u64 x3, .int .u64 x4, .int .i64 x5, .int .i64 x6] 44):=by
   rw[hg4.block _ (by rw[World.size_alloc,World.size_alloc];omega) (fun e=>by have:=Option.some.inj e;omega)]
   have:=heap_alloc_new (W1.alloc (.cells #[.int .u64 t1, .int .u64 t2, .int .u64 t3, .int .u64 t4, .int .i64 t5, .int .i64 t6] 44)) (.cells #[.int .u64 x1, .int .u64 x2, .int .u64 x3, .int .u64 x4, .int .i64 x5, .int .i64 x6] 44)
   rwa [World.size_alloc] at this
  go_wp2_with (first
   | (refine mh (ys:=[x]) rfl _ _ rfl rfl hv0 rfl rfl ?_ ?_ ?_)
   |go_in)
  ·intro j u hj
   rw[List.flatMap_cons,List.flatMap_nil,List.append_nil,hx] at hj
   have hadd:(⟨W1.heap.size+1,0,none⟩:Addr).add j=⟨W1.heap.size+1,j,none⟩:=by unfold Addr.add;split<;>simp_all
   rw[hadd,cell_of_row _ _ _ _ _ _ hnew]
   simpa using hj
  ·omega
  ·intro v' w5 hv' hg5 hd5 hat
   rw[←hpl] at hv'
   have hbv:v0.ownBlock≠some b:=fun e=>(hb0 b e).2 rfl
   obtain⟨w6,hr,own',hI6,hsub,hg6,hs6,hd6⟩:=hstore w5 v' (lK x L) (hg5.block b (by omega) fun e=>hbv e.symm) hv' hpl2 (fun g hg hgb hgv=>hg5.block g (by have:=hown g hg;omega) fun e=>hgv e.symm) (hat.imp id fun e g hg hgo=>by
    rw[e] at hg
    have:=hown g hgo
    have:=Option.some.inj hg
    omega)
   have fin:∃own',MapI w6 b own' (lK x L)∧(∀g∈own',g<w6.heap.size∧(g∈own∨w.heap.size≤g))∧Bel (fun g=>g<w.heap.size∧g ∉ own) w w6:=by
    refine⟨own',hI6,fun g hg=> ?_,⟨⟨?_, ?_, ?_, ?_,fun g hg=> ?_⟩,fun _=> ?_⟩⟩
    ·have h5:=hg5.size
     rcases hsub g hg with h|h
     ·have:=hown g h
      exact⟨by omega, .inl h⟩
     ·refine⟨by rw[hs6];exact (World.ownsRow.lt hv' g h).2, ?_⟩
      rcases hat with e|e
      ·rw[e] at h;exact .inl (hb0 g h).1
      ·rw[e] at h
       have:=Option.some.inj h
       exact .inr (by omega)
    ·exact hg6.os.trans (hg5.os.trans (hg4.os.trans hb1.os))
    ·exact hg6.tape.trans (hg5.tape.trans (hg4.tape.trans hb1.tape))
    ·exact hg6.output.trans (hg5.output.trans (hg4.output.trans hb1.output))
    ·have h5:=hg5.size
     omega
    ·have hgb:g≠b:=fun e=>hg.2 (e▸hI.mem)
     have h5:=hg5.size
     have hg1:g<w.heap.size:=hg.1
     rw[hg6.block g (by omega) (fun e=>hgb (Option.some.inj e)),hg5.block g (by omega) (fun e=>hg.2 (hb0 g e.symm).1)]
     exact hold4 g hg1 hgb
    ·have h1:=hb1.drawn rfl
     omega
   clear hI6 hsub hg6 hs6 hd6
   go_wp2_with (first
    | (refine se rfl _ _ _ rfl hr rfl rfl rfl ?_)
    |go_in)
   exact bodyPost_end (results_none rfl _ _ _) rfl ⟨rfl,fin⟩

section
variable {ops:Array Oper} {rest:List Oper} {o:Oper} {a:Act} {w:World}

theorem mu{Q:Act→Prop}(hgd:o.guard=none)(m x:Operand)(ho:o.op=Op.lookup 134 m x false){mv kv v:Value}(hr:(Instr.lookup 134 mv kv false).run Tryz.prog w= .ok v w)(hm:a.eval m=mv)(hx:a.eval x=kv)
  (h:wpStill Tryz.prog ops w Q rest (a.put o.dst v)):wpStill Tryz.prog ops w Q (o::rest) a:=by
 refine wpStill_step fun K hK=> ?_
 simp[Region.wanted,hgd,Oper.still,Oper.stillUpon,execOp,ho,hm,hx,hr,Result.andThen]
 exact hK _ h

theorem rt{Q:Exit→Act→World→Prop}(hgd:o.guard=none)(m x v:Operand)(ho:o.op=Op.mapUpdate 134 m x v){mv kv vv:Value}{w':World}(hr:(Instr.mapUpdate 134 mv kv vv).run Tryz.prog w= .ok () w')(hm:a.eval m=mv)(hx:a.eval x=kv)(hv:a.eval v=vv)
  (h:wpList Tryz.prog ops Q rest (a.put o.dst undef) w'):wpList Tryz.prog ops Q (o::rest) a w:=by
 refine wpList_plain hgd fun K hK=> ?_
 unfold Oper.wp
 simp[execOp,ho,hm,hx,hv,hr,Result.andThen]
 exact hK _ _ h
end

open Go.ChangeMaps in
set_option maxRecDepth 100000 in
theorem Eo(hT:CH){w:World}{b:Nat}{own:List Nat}{L:List En}(hI:MapI w b own L)(hown:∀g∈own,g<w.heap.size)(x:En)(hne:plE (tdE x) L≠[])(hL:L.length≤1000000):
  Calls Tryz.prog 111 #[.map (some b),eV x] w fun e w'=>e= .returned (.tuple #[])∧∃own',MapI w' b own' (drL (tdE x) L)∧(∀g∈own',g<w'.heap.size∧(g∈own∨w.heap.size≤g))∧Bel (fun g=>g<w.heap.size∧g ∉ own) w w':=by
 have mixedT:Tryz.prog.follows .mixedOrders=true:=by kernel_rfl
 have hlen:(plE (tdE x) L).length≤L.length:=by
  unfold plE
  rw[List.length_reverse]
  exact List.length_filter_le _ _
 have hpl:=Iy (tdE x) L
 have hpl2:∀q,q≠tdE x→plE q (drL (tdE x) L)=plE q L:=fun q hq=>qu hq L
 have hframe:∀{W:World},(∀g,g<w.heap.size→W.heap[g]?=w.heap[g]?)→MapI W b own L:=fun {W} hold=>by
  obtain⟨es,clock,hb,hE,h5⟩:=hI.map
  refine⟨hI.mem,es,clock,(hold b (Array.getElem?_eq_some_iff.1 hb).1).trans hb,hE.frame fun g ⟨x,hx,hg⟩=>hold g ?_,h5⟩
  obtain⟨q,_,h2,_⟩:=hE.is x hx
  exact (h2.lt g hg).2
 have hT2:∀W,Calls Tryz.prog 71 #[eV x] W fun e W'=>e= .returned (eV (tdE x))∧Bel (bl W.heap.size) W W':=fun W=>hT W x
 generalize tdE x=p at hT2 hpl hpl2 hlen hne
 obtain⟨x1,x2,x3,x4,x5,x6,hx⟩:∃x1 x2 x3 x4 x5 x6:Int,encV x=[.int .u64 x1, .int .u64 x2, .int .u64 x3, .int .u64 x4, .int .i64 x5, .int .i64 x6]:=⟨_,_,_,_,_,_,rfl⟩
 obtain⟨t1,t2,t3,t4,t5,t6,hp⟩:∃t1 t2 t3 t4 t5 t6:Int,eV p= .agg #[.int .u64 t1, .int .u64 t2, .int .u64 t3, .int .u64 t4, .int .i64 t5, .int .i64 t6]:=⟨_,_,_,_,_,_,rfl⟩
 have hxv:eV x= .agg #[.int .u64 x1, .int .u64 x2, .int .u64 x3, .int .u64 x4, .int .i64 x5, .int .i64 x6]:=by unfold eV;rw[hx]
 rw[hp,hxv] at hT2
 have hT3:=zC (w:=w) hT2
 rw[hxv]
 go_enter Tryz.func111,Tryz.ntmps111
 go_wp2_with (first
  | (go_at_call 71;refine hT3.mono ?_;rintro e W1 ⟨rfl,hb1,hlt,c0,c1,c2,c3,c4,c5⟩)
  |go_in)
 have hdr:(W1.alloc (.cells #[.int .u64 t1, .int .u64 t2, .int .u64 t3, .int .u64 t4, .int .i64 t5, .int .i64 t6] 44)).drawn=W1.drawn:=rfl
 have hnew:=heap_alloc_new W1 (.cells #[.int .u64 t1, .int .u64 t2, .int .u64 t3, .int .u64 t4, .int .i64 t5, .int .i64 t6] 44)
 have hold2:∀g,g<W1.heap.size→(W1.alloc (.cells #[.int .u64 t1, .int .u64 t2, .int .u64 t3, .int .u64 t4, .int .i64 t5, .int .i64 t6] 44)).heap[g]?=W1.heap[g]?:=fun g h=>heap_alloc_old _ _ h
 have hsz2:(W1.alloc (.cells #[.int .u64 t1, .int .u64 t2, .int .u64 t3, .int .u64 t4, .int .i64 t5, .int .i64 t6] 44)).heap.size=W1.heap.size+1:=World.size_alloc _ _
 have hos2:(W1.alloc (.cells #[.int .u64 t1, .int .u64 t2, .int .u64 t3, .int .u64 t4, .int .i64 t5, .int .i64 t6] 44)).os=W1.os∧(W1.alloc (.cells #[.int .u64 t1, .int .u64 t2, .int .u64 t3, .int .u64 t4, .int .i64 t5, .int .i64 t6] 44)).tape=W1.tape∧
   (W1.alloc (.cells #[.int .u64 t1, .int .u64 t2, .int .u64 t3, .int .u64 t4, .int .i64 t5, .int .i64 t6] 44)).output=W1.output:=⟨rfl,rfl,rfl⟩
 generalize W1.alloc (.cells #[.int .u64 t1, .int .u64 t2, .int .u64 t3, .int .u64 t4, .int .i64 t5, .int .i64 t6] 44)=W2 at*
 have dk:∀k u,(#[.int .u64 t1, .int .u64 t2, .int .u64 t3, .int .u64 t4, .int .i64 t5, .int .i64 t6]:Array Value)[k]?=some u→W2.cell? ⟨W1.heap.size,k,none⟩=some u:=fun k u hu=>by
  rw[cell_of_row W2 _ _ _ _ _ hnew]
  exact hu
 have d0:=dk 0 (.int .u64 t1) rfl
 have d1:=dk 1 (.int .u64 t2) rfl
 have d2:=dk 2 (.int .u64 t3) rfl
 have d3:=dk 3 (.int .u64 t4) rfl
 have d4:=dk 4 (.int .i64 t5) rfl
 have d5:=dk 5 (.int .i64 t6) rfl
 have hold3:∀g,g<w.heap.size→W2.heap[g]?=w.heap[g]?:=fun g hg=>(hold2 g (Nat.lt_trans hg hlt)).trans (hb1.block g hg)
 have hI2:MapI { W2 with drawn:=W2.drawn+1} b own L:=hframe hold3
 obtain⟨v0,hrun,hv0,hv0o⟩:=Jc hI2 p
 rw[hp] at hrun
 obtain⟨g,cap,rfl,hcap,hg,_⟩:=E3 hv0 hne
 obtain⟨m,hm⟩:∃m,(plE p L).length=m+1:=⟨(plE p L).length-1,by have:=List.length_pos_iff.2 hne;omega⟩
 have hv:iP { W2 with drawn:=W2.drawn+1} (.slice (some ⟨g,0,none⟩) m cap) (plE p (drL p L)):=by
  unfold iP
  rw[hpl,List.length_dropLast,hm,Nat.add_sub_cancel]
  rcases hv0.2 with⟨e,_⟩| ⟨g',cap',cur,e,h0,h1,h2,h3,h4,h5⟩
  ·cases e
  ·cases e
   refine⟨by rw[ng,List.length_dropLast,hm,Nat.add_sub_cancel], .inr ⟨g,cap,cur,rfl,h0,h1,by omega,h3,h4, ?_⟩⟩
   have hsp:(plE p L).flatMap encV=(plE p L).dropLast.flatMap encV++((plE p L).drop m).flatMap encV:=by
    rw[←List.flatMap_append,List.dropLast_eq_take,hm,Nat.add_sub_cancel,List.take_append_drop]
   have:cur.toList.take (m*6)=((plE p L).flatMap encV).take (m*6):=by
    rw[←h5,List.take_take,Nat.min_eq_left (by rw[hm];omega)]
   rw[this,hsp,List.take_left' (by rw[ng,List.length_dropLast,hm,Nat.add_sub_cancel])]
 obtain⟨es',c',hupd,hI6,hsub⟩:=HP (L':=drL p L) (v0:= .slice (some ⟨g,0,none⟩) (plE p L).length cap) hI2 hne (by rw[hp];exact hrun) hv hpl2 rfl
 rw[hp] at hupd
 rw[hm] at hrun hcap
 have hci:(m:Int)≤(cap:Int):=by omega
 have hmb:m+1≤1000000:=by omega
 have hwr:IntKind.i64.wrap (m:Int)=m:=by simp[IntKind.wrap,IntKind.bits,IntKind.signed];omega
 have hbw:b<w.heap.size:=hown b hI.mem
 have fin:∃own',MapI (setBlock { W2 with drawn:=W2.drawn+1} b (.map es' c')) b own' (drL p L)∧
   (∀g∈own',g< (setBlock { W2 with drawn:=W2.drawn+1} b (.map es' c')).heap.size∧(g∈own∨w.heap.size≤g))∧
   Bel (fun g=>g<w.heap.size∧g ∉ own) w (setBlock { W2 with drawn:=W2.drawn+1} b (.map es' c')):=by
  have hsz:(setBlock { W2 with drawn:=W2.drawn+1} b (.map es' c')).heap.size=W1.heap.size+1:=by
   unfold setBlock
   simpa using hsz2
  obtain⟨es,clock,hb,_⟩:=hI2.map
  refine⟨_,hI6,fun g hg=> ?_,⟨⟨hos2.1.trans hb1.os,hos2.2.1.trans hb1.tape,hos2.2.2.trans hb1.output,by rw[hsz];omega,fun g hg=> ?_⟩,fun _=> ?_⟩⟩
  ·have:=hown g (hsub g hg)
   exact⟨by rw[hsz];omega, .inl (hsub g hg)⟩
  ·have hgb:g≠b:=fun e=>hg.2 (e▸hI.mem)
   rw[heap_setBlock_other hb _ hgb]
   exact hold3 g hg.1
  ·have:=hb1.drawn rfl
   show w.drawn≤W2.drawn+1
   omega
 generalize setBlock { W2 with drawn:=W2.drawn+1} b (.map es' c')=W4 at hupd fin
 clear hI6 hsub hv hv0 hI2 hI hold3 hold2 hnew dk c0 c1 c2 c3 c4 c5 hos2 hdr hsz2
 go_still_tail 11,mixedT
 refine mu rfl (.tmp 9) (.tmp 10) rfl hrun rfl rfl ?_
 repeat still_step
 refine mu rfl (.tmp 12) (.tmp 13) rfl hrun rfl rfl ?_
 repeat still_step
 refine wpStill_nil ?_
 refine rt rfl (.tmp 7) (.tmp 8) (.tmp 17) rfl hupd rfl rfl rfl ?_
 go_wp2
 exact bodyPost_end (results_none rfl _ _ _) rfl ⟨rfl,fin⟩

end Go.Proofs.YtcabofadpheomaaGreat.L1
end

section
namespace Go.Proofs.YtcabofadpheomaaGreat.L1
open Go Go.Proofs Go.RowKit Go.Sx Go.Sx.M
theorem zk{w:World}{v:Value}{l:List En}(hv:iP w v l)(ty:TypeId):(Builtin.append_ #[29,29] ty #[v, .slice none 0 0]).run Tryz.prog w= .ok v w:=by
 obtain⟨i,hi,hz,hsz,hby⟩:=Ju
 rcases hv.2 with⟨rfl,h0⟩| ⟨g,cap,cur,rfl,hbg,hg,hnc,hcm,hcs,htake⟩
 ·simp[Builtin.append_,run_underlying Tryz.underlying29,sizeOf,typeInfo,hi,Builtin.lenOf,Builtin.firstCells]
 ·simp[Builtin.append_,run_underlying Tryz.underlying29,sizeOf,typeInfo,hi,Builtin.lenOf,Builtin.firstCells,loadCells,hnc,storeCells]

noncomputable def pk(x:MapEntry):En:=open Classical in if h:∃p,x.key=eV p then Classical.choose h else default

theorem xN{x:MapEntry}{p:En}(h:x.key=eV p):pk x=p:=by
 have hex:∃p,x.key=eV p:=⟨p,h⟩
 unfold pk
 rw[dif_pos hex]
 exact iN ((Classical.choose_spec hex).symm.trans h)

noncomputable def come(l:List MapEntry)(L:List En)(seen:Array Nat):List En:=(l.filter fun x=>seen.contains x.born).flatMap fun x=>plE (pk x) L

theorem Hs(l:List MapEntry)(L:List En):come l L #[]=[]:=by
 unfold come
 rw[List.filter_eq_nil_iff.2 (by simp)]
 rfl

theorem wy{L:List En}{seen:Array Nat}{e:MapEntry}(hs:seen.contains e.born=false):∀{l:List MapEntry},(l.map (·.born)).Nodup→e∈l→(come l L (seen.push e.born)).Perm (come l L seen++plE (pk e) L)
 |x::l,hn,he=>by
  rw[List.map_cons,List.nodup_cons] at hn
  unfold come
  rcases List.mem_cons.1 he with rfl|he
  ·have hrest:(l.filter fun y=>(seen.push e.born).contains y.born)=l.filter fun y=>seen.contains y.born:=List.filter_congr fun y hy=>by
    have:y.born≠e.born:=fun h=>hn.1 (List.mem_map.2 ⟨y,hy,h⟩)
    rw[contains_push]
    simp[this]
   rw[List.filter_cons_of_pos (by rw[contains_push];simp),List.filter_cons_of_neg (by rw[hs];simp),hrest,List.flatMap_cons]
   exact List.perm_append_comm
  ·have ih:=wy (L:=L) hs hn.2 he
   unfold come at ih
   have hne:x.born≠e.born:=fun h=>hn.1 (List.mem_map.2 ⟨e,he,h.symm⟩)
   by_cases hx:seen.contains x.born=true
   ·rw[List.filter_cons_of_pos (by rw[contains_push,hx];simp),List.filter_cons_of_pos (p:=fun x:MapEntry=>seen.contains x.born) hx,List.flatMap_cons,List.flatMap_cons,List.append_assoc]
    exact ih.append_left _
   ·have hx':seen.contains x.born=false:=by simpa using hx
    rw[List.filter_cons_of_neg (by rw[contains_push,hx'];simp[hne]),List.filter_cons_of_neg (p:=fun x:MapEntry=>seen.contains x.born) hx]
    exact ih

theorem B5{w:World}{own:List Nat}{L:List En}{es:Array MapEntry}{clock:Nat}(h:MapE w own L es clock){seen:Array Nat}(hs:∀x∈es.toList,seen.contains x.born=true):(come es.toList L seen).Perm L:=by
 unfold come
 rw[List.filter_eq_self.2 hs]
 refine List.perm_iff_count.2 fun y=> ?_
 have key:∀l:List MapEntry,(l.Pairwise fun x y=>pk x≠pk y)→(l.flatMap fun x=>plE (pk x) L).count y=if∃x∈l,pk x=tdE y then L.count y else 0:=by
  intro l
  induction l with
  |nil=>intro _;simp
  |cons x l ih=>
   intro hp
   obtain⟨h1,h2⟩:=List.pairwise_cons.1 hp
   rw[List.flatMap_cons,List.count_append,ih h2]
   have hc:(plE (pk x) L).count y=if pk x=tdE y then L.count y else 0:=by
    unfold plE
    rw[List.count_reverse]
    by_cases e:pk x=tdE y
    ·rw[if_pos e,List.count_filter (by simpa using e.symm)]
    ·rw[if_neg e]
     refine List.count_eq_zero_of_not_mem fun hm=> ?_
     rw[List.mem_filter,decide_eq_true_eq] at hm
     exact e hm.2.symm
   rw[hc]
   by_cases e:pk x=tdE y
   ·have hno:¬∃x'∈l,pk x'=tdE y:=fun⟨x',hx',e'⟩=>h1 x' hx' (e.trans e'.symm)
    rw[if_pos e,if_neg hno,if_pos ⟨x,List.mem_cons_self,e⟩,Nat.add_zero]
   ·rw[if_neg e,Nat.zero_add]
    by_cases hx:∃x'∈l,pk x'=tdE y
    ·obtain⟨x',hx',e'⟩:=hx
     rw[if_pos ⟨x',hx',e'⟩,if_pos ⟨x',List.mem_cons_of_mem _ hx',e'⟩]
    ·rw[if_neg hx,if_neg]
     rintro⟨x',hx',e'⟩
     rcases List.mem_cons.1 hx' with rfl|hx'
     ·exact e e'
     ·exact hx ⟨x',hx',e'⟩
 have hp:es.toList.Pairwise fun x y=>pk x≠pk y:=by
  refine List.Pairwise.imp_of_mem (fun {a c} ha hc hac=> ?_) h.apart
  obtain⟨p,hp,_⟩:=h.is a ha
  obtain⟨q,hq,_⟩:=h.is c hc
  rw[xN hp,xN hq]
  intro e
  exact hac.1 (by rw[hp,hq,e])
 rw[key _ hp]
 by_cases hy:y∈L
 ·obtain⟨x,hx,hk⟩:=h.all y hy
  rw[if_pos ⟨x,hx,xN hk⟩]
 ·rw[List.count_eq_zero_of_not_mem hy]
  split<;>rfl

section
variable {ops:Array Oper} {rest:List Oper} {o:Oper} {a:Act} {Q:Exit→Act→World→Prop} {w:World}

open Go.ChangeMaps Go.MapKept Go.WideShapes in
theorem uY(hgd:o.guard=none)(x:Operand)(ho:o.op=Op.next x false){r b since c0 clock:Nat}{seen:Array Nat}{es:Array MapEntry}(hr:w.heap[r]?=some (.mapIter (some b) since seen c0))(hb:w.heap[b]?=some (.map es clock))
  (hold:∀x∈es.toList,x.born<since) (hsc:since≤c0) (hx:a.eval x= .pointer (some ⟨r,0,none⟩)) (h0:(leftOf es seen).size=0→wpList Tryz.prog ops Q rest (a.put o.dst (.tuple #[.bool false])) w)
  (h1:∀e∈(leftOf es seen).toList,∀w',w'.heap[r]?=some (.mapIter (some b) since (seen.push e.born) clock)→w.grownBy w' (some r)→w'.heap.size=w.heap.size→w.drawn≤w'.drawn→wpList Tryz.prog ops Q rest (a.put o.dst (.tuple #[.bool true,e.key,e.val])) w'):wpList Tryz.prog ops Q (o::rest) a w:=by
 refine wpList_plain hgd fun K hK=> ?_
 rcases run_next_at (P:=Tryz.prog) w o.type r b since c0 seen es clock hr hb hold hsc with⟨hz,hrun⟩| ⟨e,he,w1,hal,hrun⟩
 ·unfold Oper.wp
  simp[execOp,ho,hx,hrun,Result.andThen]
  exact hK _ _ (h0 hz)
 ·unfold Oper.wp
  simp[execOp,ho,hx,hrun,Result.andThen]
  have hr1:w1.heap[r]?=some (.mapIter (some b) since seen c0):=by rcases hal with rfl|rfl<;>exact hr
  have hset:=heap_set (o':= .mapIter (some b) since (seen.push e.born) clock) hr1
  refine hK _ _ (h1 e he _ hset.1 ?_ ?_ ?_)
  ·rcases hal with rfl|rfl<;>exact⟨rfl,rfl,rfl,by simp[setBlock],fun i _ hi=>hset.2 i fun e1=>hi (by rw[e1])⟩
  ·rcases hal with rfl|rfl<;>simp[setBlock]
  ·rcases hal with rfl|rfl
   ·exact Nat.le_refl _
   ·show w.drawn≤w.drawn+1
    omega
end

theorem IA{B:Gd}{ρ:List Sx.Loc}{h:Hp}{w0 W:World}{v:Value}{acc:List En}(hH:HpR B ρ h w0)(hb:Bel (bl w0.heap.size) w0 W)(hv:iP W v acc)(hnew:∀g,v.ownBlock=some g→w0.heap.size≤g):
  ∃l,HpR B (ρ++[l]) (h++[some ⟨true,qK,6,true,acc.map enA⟩]) W∧AVR (ρ++[l]) (.vsl h.length 0 acc.length) v:=by
 have hH1:=hH.below hb
 rcases hv.2 with⟨rfl,h0⟩| ⟨g,cap,cur,rfl,_,hg,h1,h2,h3,h4⟩
 ·have:acc=[]:=List.length_eq_zero_iff.1 h0
  subst this
  exact⟨⟨0,0,0,0,true⟩,hH1.pushPh _ (by simp) rfl, .vslN rfl⟩
 ·have hgw:=hnew g rfl
  obtain⟨o,hO⟩:=hH.objs
  have hO1:=hO.change hb.size fun _ _ _ hk hl b hb'=>hb.block _ (hO.lt hk hl b hb')
  refine⟨⟨g,0,6,cap,false⟩,hH1.push (by simp) ?_ (fun r k' l' hk hl e=> ?_) hO1 (fun r k' l' hk hl hm=> ?_), ?_⟩
  ·refine⟨rfl,cur,_,_,hg,fun i e hi=> ?_,fun _=>⟨rfl,rfl,rfl,h3,h2,fun hB=> ?_,by simpa using h1⟩⟩
   ·rw[List.getElem?_map] at hi
    obtain⟨x,hx,rfl⟩:=Option.map_eq_some_iff.1 hi
    refine⟨rfl,rfl,fun k c hc=> ?_⟩
    have hrel:=AVR.cells (x:=enA x) (by rfl) (oW x)
    obtain⟨u,hu,hr⟩:=hrel.get hc
    have hu':(encV x)[k]?=some u:=by simpa [eV,Value.cells] using hu
    refine⟨u, ?_,by simpa using hr⟩
    have hf:=t8 hx k u hu'
    rw[←h4,List.getElem?_take] at hf
    split at hf
    ·simpa using hf
    ·cases hf
   ·have:=hH.base g hB
    have:g<w0.heap.size:=this
    omega
  ·have:=(hH.blk r k' l' hk hl).lt
   have e:l'.b=g:=e
   omega
  ·have:=hO.lt hk hl g hm
   omega
  ·have:=AVR.vslS (ρ:=ρ++[(⟨g,0,6,cap,false⟩:Sx.Loc)]) (r:=h.length) (i:=0) (len:=acc.length) (c:=cap) (l:=⟨g,0,6,cap,false⟩) (a:=⟨g,0,none⟩) (At.new hH.len rfl) h1 (by simp) (fun _=>by simp)
   exact this

set_option maxRecDepth 100000 in
theorem K4(hS:eJ Tryz.prog 39 (ey [pEn] ja)){B:Gd}{ρ:List Sx.Loc}{h:Hp}{w0 W:World}{v:Value}{acc:List En}(hH:HpR B ρ h w0)(hb:Bel (bl w0.heap.size) w0 W)(hv:iP W v acc)(hnew:∀g,v.ownBlock=some g→w0.heap.size≤g)(hl:acc.length≤1000000):
  Calls Tryz.prog 39 #[v] W fun e W'=>∃u ρ',e= .returned u∧AVR (ρ++ρ') (.vsl (h.length+1) 0 acc.length) u∧HpR B (ρ++ρ') (h++[none,some ⟨true,qK,6,true,(srE acc).map enA⟩]) W'∧Bel B w0 W':=by
 obtain⟨l,hH2,hv2⟩:=IA hH hb hv hnew
 have hent:(callFunc 39 [v].toArray).run Tryz.prog W= .ok (.enter 39 [v].toArray) W:=kH (P:=Tryz.prog) Tryz.func39 noNG (c:=(Tryz.f39.body.get (by kernel_rfl))) (by kernel_rfl) _ W
 have hsp:ey [pEn] ja [.vsl h.length 0 acc.length] (h++[some ⟨true,qK,6,true,acc.map enA⟩]) (fun x h'=>x= .vsl (h.length+1) 0 acc.length∧h'=(h++[some ⟨true,qK,6,true,acc.map enA⟩])++[some ⟨true,qK,6,true,(srE acc).map enA⟩]):=by
  have hrow:Hp.row (h++[some ⟨true,qK,6,true,acc.map enA⟩]:Hp) h.length=some ⟨true,qK,6,true,acc.map enA⟩:=eN.2 ⟨by simp,by simp⟩
  unfold ey
  have ha:mf (h++[some ⟨true,qK,6,true,acc.map enA⟩]) [pEn] [.vsl h.length 0 acc.length]=some [.row (acc.map enE)]:=by
   simp only[mf,KH,pEn,sF,hrow]
   simp only[List.drop_zero]
   have:(acc.map enA).take acc.length=acc.map enE:=by
    rw[List.take_of_length_le (by simp)];rfl
   rw[this]
   simp
  rw[ha]
  show gW _ _ _
  rw[o4,hrow]
  refine⟨by simp, ?_⟩
  show ja _ _
  refine⟨by rw[gg],by rw[gg];exact hl, ?_⟩
  rw[gg]
  refine⟨?_,rfl⟩
  simp[fj]
 rcases hS _ _ _ hsp B (ρ++[l]) W [v] hH2 (.cons hv2 .nil) with⟨_,hc⟩| ⟨u,w',hr,_⟩
 ·refine hc.mono fun e W' he=> ?_
  cases e with
  |returned u=>
   obtain⟨ρ',x,h',⟨rfl,rfl⟩,hrel,hH3,hb3⟩:=he
   refine⟨u,[l]++ρ',rfl,by rw[←List.append_assoc];exact hrel, ?_,(hb.mono hH.base).trans hb3⟩
   have:=hH3.kill h.length
   rw[←List.append_assoc]
   have e:((h++[some ⟨true,qK,6,true,acc.map enA⟩])++[some ⟨true,qK,6,true,(srE acc).map enA⟩]:Hp).set h.length none=h++[none,some ⟨true,qK,6,true,(srE acc).map enA⟩]:=by
    simp
   rw[e] at this
   exact this
  |panicked c=>exact he.elim
  |outgrown=>exact he.elim
 ·rw[hent] at hr
  cases hr

def Fj(es:Array MapEntry)(r:Nat)(w:World):Nat:=match w.heap[r]? with
 |some (.mapIter _ _ seen _)=>(leftOf es seen).size
 |_=>0

theorem nh(p:MapEntry→Bool)(f:MapEntry→List En):∀l:List MapEntry,((l.filter p).flatMap f).length≤(l.flatMap f).length
 | []=>Nat.le_refl _
 |x::l=>by
  have ih:=nh p f l
  by_cases h:p x=true
  ·rw[List.filter_cons_of_pos h,List.flatMap_cons,List.flatMap_cons,List.length_append,List.length_append];omega
  ·rw[List.filter_cons_of_neg h,List.flatMap_cons,List.length_append];omega

theorem Mc{w:World}{own:List Nat}{L:List En}{es:Array MapEntry}{clock:Nat}(h:MapE w own L es clock)(seen:Array Nat):(come es.toList L seen).length≤L.length:=by
 have h1:=B5 h (seen:=(es.toList.map (·.born)).toArray) (fun x hx=>by simpa using ⟨x,by simpa using hx,rfl⟩)
 rw[←h1.length_eq]
 have h2:come es.toList L (es.toList.map (·.born)).toArray=es.toList.flatMap fun x=>plE (pk x) L:=by
  unfold come
  rw[List.filter_eq_self.2 fun x hx=>by simpa using ⟨x,by simpa using hx,rfl⟩]
 rw[h2]
 exact nh _ _ _

set_option maxRecDepth 100000 in
theorem vu(hS:eJ Tryz.prog 39 (ey [pEn] ja)){B:Gd}{ρ:List Sx.Loc}{h:Hp}{w:World}{b:Nat}{own:List Nat}{L:List En}(hH:HpR B ρ h w)(hI:MapI w b own L)(hown:∀g∈own,g<w.heap.size)(hs:Sorted L)(hL:L.length≤1000000):
  Calls Tryz.prog 74 #[.map (some b)] w fun e W'=>∃u ρ',e= .returned u∧AVR (ρ++ρ') (.vsl (h.length+1) 0 L.length) u∧HpR B (ρ++ρ') (h++[none,some ⟨true,qK,6,true,L.map enA⟩]) W'∧Bel B w W':=by
 obtain⟨es,clock,hb,hE,_⟩:=hI.map
 have hbw:b<w.heap.size:=hown b hI.mem
 have hrange:=run_range_map (P:=Tryz.prog) w 134 44 29 b es clock Tryz.underlying134 hb
 go_enter Tryz.func74,Tryz.ntmps74
 go_wp2
 go_loopw [3] (fun i wr=>∃(acc:List En) (seen:Array Nat) (c0:Nat),iP wr i acc∧(∀g,i.ownBlock=some g→w.heap.size<g)∧Bel (bl w.heap.size) w wr∧wr.heap[w.heap.size]?=some (.mapIter (some b) clock seen c0)∧clock≤c0∧acc.Perm (come es.toList L seen))
  (fun _ wr=>Fj es w.heap.size wr)
 case atStart=>
  exact⟨[], #[],clock,World.ownsRow_nil _ _ _ _,(by intro g hg;cases hg),FU ((Below.refl _ w).alloc (Nat.le_refl _) _) (Nat.le_refl _),heap_alloc_new w _,Nat.le_refl _,by rw[Hs]⟩
 case round=>
  obtain⟨acc,seen,c0,hacc,hnew,hbel,hit,hsc,hperm⟩:=hrel
  have hb1:wr.heap[b]?=some (.map es clock):=(hbel.block b hbw).trans hb
  go_wp2_with (first
   | (refine uY rfl _ rfl hit hb1 hE.old hsc rfl ?_ ?_)
   |go_in)
  ·intro hz
   have hall:∀x∈es.toList,seen.contains x.born=true:=all_seen es seen (by rw[hz];rfl)
   have hp2:=hperm.trans (B5 hE hall)
   have hlen:=hp2.length_eq
   have hsr:=kN hs hp2.symm
   go_wp2_with (first
    | (go_at_call 39;refine (K4 hS hH hbel hacc (fun g hg=>Nat.le_of_lt (hnew g hg)) (by omega)).mono ?_;rintro e W' ⟨u,ρ',rfl,h1,h2,h3⟩)
    |go_in)
   rw[hlen] at h1
   rw[←hsr] at h2
   go_ret
   exact⟨u,ρ',rfl,h1,h2,h3⟩
  ·intro e he w' hit' hg' hs' hd'
   have he:e∈(leftOf es seen).toList:=by simpa using he
   obtain⟨hem,hes⟩:=mem_left he
   obtain⟨q,hq,hqo,hqg⟩:=hE.is e hem
   have hpk:=xN hq
   have hrlt:w.heap.size<wr.heap.size:=(Array.getElem?_eq_some_iff.1 hit).1
   have hold':∀g,g<w.heap.size→w'.heap[g]?=w.heap[g]?:=fun g hg=>(hg'.block g (by omega) fun e=>by have:=Option.some.inj e;omega).trans (hbel.block g hg)
   have hb':w'.heap[b]?=some (.map es clock):=(hold' b hbw).trans hb
   have hent:=run_entry_at (P:=Tryz.prog) w' w.heap.size b clock seen es clock e hit' hb' hem hE.born
   have hqo':iP w' e.val (plE q L):=fF hqo fun g hg=>hold' g (hown g (hqg g hg))
   have hacc':iP w' u3 acc:=fF hacc fun g hg=>hg'.block g (by have:=(World.ownsRow.lt hacc g hg).2;omega) fun e=>by
    have:=Option.some.inj e
    have:=hnew g hg
    omega
   have hperm':(acc++plE q L).Perm (come es.toList L (seen.push e.born)):=by
    have:=wy (L:=L) hes hE.born hem
    rw[hpk] at this
    exact (hperm.append_right _).trans this.symm
   have hbound:(acc++plE q L).length≤1000000:=by
    rw[hperm'.length_eq]
    exact Nat.le_trans (Mc hE _) hL
   rw[List.length_append] at hbound
   have hmeas:=left_shrinks es seen e he
   have fin:∀(v':Value) (w2:World),iP w2 v' (acc++plE q L)→w'.grownBy w2 u3.ownBlock→w'.drawn≤w2.drawn→(v'.ownBlock=u3.ownBlock∨v'.ownBlock=some w'.heap.size)→
     (∃(acc:List En) (seen:Array Nat) (c0:Nat),iP w2 v' acc∧(∀g,v'.ownBlock=some g→w.heap.size<g)∧Bel (bl w.heap.size) w w2∧w2.heap[w.heap.size]?=some (.mapIter (some b) clock seen c0)∧clock≤c0∧acc.Perm (come es.toList L seen))∧
     Fj es w.heap.size w2<Fj es w.heap.size wr:=by
    intro v' w2 hv' hg2 hd2 hat
    have hit2:w2.heap[w.heap.size]?=some (.mapIter (some b) clock (seen.push e.born) clock):=(hg2.block _ (by omega) fun h=>by have:=hnew _ h.symm;omega).trans hit'
    refine⟨⟨acc++plE q L,seen.push e.born,clock,hv',fun g hg=> ?_,⟨⟨?_, ?_, ?_, ?_,fun g hg=> ?_⟩,fun _=> ?_⟩,hit2,Nat.le_refl _,hperm'⟩, ?_⟩
    ·rcases hat with h|h
     ·rw[h] at hg;exact hnew g hg
     ·rw[h] at hg
      have:=Option.some.inj hg
      omega
    ·exact hg2.os.trans (hg'.os.trans hbel.os)
    ·exact hg2.tape.trans (hg'.tape.trans hbel.tape)
    ·exact hg2.output.trans (hg'.output.trans hbel.output)
    ·have:=hg2.size
     omega
    ·have hg1:g<w.heap.size:=hg
     exact (hg2.block g (by omega) fun h=>by have:=hnew _ h.symm;omega).trans (hold' g hg1)
    ·have:=hbel.drawn rfl
     omega
    ·unfold Fj
     rw[hit2,hit]
     exact hmeas
   clear hperm' hmeas
   rcases hqo'.2 with⟨hval,h0⟩| ⟨g,cap,cur,hval,_⟩
   ·have hnil:plE q L=[]:=List.length_eq_zero_iff.1 h0
    rw[hnil,List.append_nil] at fin
    have hrun:=zk hacc' 29
    have fin2:=fin u3 w' hacc' ⟨rfl,rfl,rfl,Nat.le_refl _,fun _ _ _=>rfl⟩ (Nat.le_refl _) (.inl rfl)
    go_wp2_with (first
     | (refine mw rfl _ _ 29 rfl rfl rfl hrun ?_)
     |go_in)

    go_roundw
    case rel=>exact fin2.1
    case measure=>exact fin2.2
   ·have hcl:=World.ownsRow.cells hqo' (g:=g) (by rw[hval];rfl)
    go_wp2_with (first
     | (refine mh (ys:=plE q L) rfl _ _ rfl rfl hacc' rfl rfl hcl hbound ?_;intro v' w2 hv' hg2 hd2 hat)
     |go_in)

    have fin2:=fin v' w2 hv' hg2 hd2 hat
    go_roundw
    case rel=>exact fin2.1
    case measure=>exact fin2.2

end Go.Proofs.YtcabofadpheomaaGreat.L1
end

section
namespace Go.Proofs.YtcabofadpheomaaGreat.L1
open Go.Sx Go.Sx.M

theorem um{ρ:List Sx.Loc}{x:En}{v:Value}(h:AVR ρ (enE x) v):v=eV x:=by
 unfold enE at h
 cases h with
 |agg h=>
  cases h with|cons a h=>cases h with|cons b h=>cases h with|cons c h=>cases h with|cons d h=>cases h with|cons e h=>cases h with|cons f h=>
   cases h;cases a;cases b;cases c;cases d;cases e;cases f;rfl

def tpE(p:En)(L:List En):En:=(fM p L).getD ⟨0#64,0#64,0#64,0#64,0,0⟩

def xO:Sx.Spec:=fun args h K=>match args with
 | [.mp r, .agg [.w64 v, .w64 w, .w64 m, .w64 n, .int .i64 k, .int .i64 a]]=>match h.obj r with
  |some ⟨_,ty,_,_,es⟩=>match decide (ty=piT) with
   |true=>(es=(deE es).map enE∧(deE es).length≤1000000)∧K (.tuple [enE (tpE ⟨v,w,m,n,k,a⟩ (deE es)), .bool (fM ⟨v,w,m,n,k,a⟩ (deE es)).isSome]) h
   |false=>False
  |none=>False
 |_=>False

def Dh:Sx.Spec:=fun args h K=>match args with
 | [.mp r, .agg [.w64 v, .w64 w, .w64 m, .w64 n, .int .i64 k, .int .i64 a]]=>match h.obj r with
  |some ⟨wr,ty,_,_,es⟩=>match decide (ty=piT),wr with
   |true,true=>(es=(deE es).map enE∧(deE es).length<1000000∧∀y∈deE es,tdE y=tdE ⟨v,w,m,n,k,a⟩→cpE ⟨v,w,m,n,k,a⟩ y≤0)∧
     K (.tuple []) (h.set r (some ⟨true,piT,0,true,(lK ⟨v,w,m,n,k,a⟩ (deE es)).map enE⟩))
   |_,_=>False
  |none=>False
 |_=>False

def xP:Sx.Spec:=fun args h K=>match args with
 | [.mp r, .agg [.w64 v, .w64 w, .w64 m, .w64 n, .int .i64 k, .int .i64 a]]=>match h.obj r with
  |some ⟨wr,ty,_,_,es⟩=>match decide (ty=piT),wr with
   |true,true=>(es=(deE es).map enE∧(deE es).length≤1000000∧fM (tdE ⟨v,w,m,n,k,a⟩) (deE es)≠none)∧
     K (.tuple []) (h.set r (some ⟨true,piT,0,true,(drL (tdE ⟨v,w,m,n,k,a⟩) (deE es)).map enE⟩))
   |_,_=>False
  |none=>False
 |_=>False

def Di:Sx.Spec:=fun args h K=>match args with
 | [.mp r]=>match h.obj r with
  |some ⟨_,ty,_,_,es⟩=>match decide (ty=piT) with
   |true=>(es=(deE es).map enE∧(deE es).length≤1000000)∧K (.vsl (h.length+1) 0 es.length) (h++[none,some ⟨true,44,6,true,es⟩])
   |false=>False
  |none=>False
 |_=>False

theorem pz{B:Gd}{ρ:List Sx.Loc}{h:Hp}{w:World}{r:Nat}{v:Value}{k:Blk}(hH:HpR B ρ h w)(hr:AVR ρ (.mp r) v)(hk:h.obj r=some k)(hty:k.ty=piT)(_hL:k.elems=(deE k.elems).map enE):
  ∃l o,At ρ r l∧v= .map (some l.b)∧ObjsO o B ρ h w∧MapI w l.b (o r) (deE k.elems)∧Sorted (deE k.elems)∧∀b∈o r,b<w.heap.size:=by
 cases hr with
 |mp hl=>
  rename_i l
  obtain⟨o,hO⟩:=hH.objs
  obtain⟨hob,hlt,_,_⟩:=hO.is r k l hk hl
  refine⟨l,o,hl,rfl,hO, ?_⟩
  rw[hty] at hob
  generalize k.elems=es at hob
  cases hob with
  |raw m hm=>exact absurd hm (by rintro (⟨h1,_⟩|h1);exact absurd h1 (by decide);exact h1)
  |mk h0 ρ0 o0 hrep=>exact hrep.elim
  |ext hx=>
   obtain⟨L,h1,h2,h3⟩:=LW hx
   have e:deE es=L:=by rw[h1];exact gg L
   rw[e]
   exact⟨h3,h2,hlt⟩

theorem HR:eJ Tryz.prog 70 xO:=by
 intro args h K hK B ρ w vs hH hv
 unfold xO at hK
 split at hK
 ·rename_i r v w' m n k a
  split at hK
  ·rename_i wr ty esz fl es hb
   split at hK
   ·rename_i hty
    obtain⟨⟨hL,hlen⟩,hK⟩:=hK
    obtain⟨v1,v2,rfl,hr1,hr2⟩:=hv.two_inv
    obtain⟨l,o,hl,rfl,hO,hI,_,_⟩:=pz (k:=⟨wr,ty,esz,fl,es⟩) hH hr1 hb (of_decide_eq_true hty) hL
    have e2:=um (x:=⟨v,w',m,n,k,a⟩) hr2
    subst e2
    refine .inl ⟨kH (P:=Tryz.prog) Tryz.func70 noNG (c:=(Tryz.f70.body.get (by kernel_rfl))) (by kernel_rfl) _ w,(Gj hI _ hlen).mono ?_⟩
    rintro e W' ⟨rfl,hbel⟩
    refine⟨[],_,h,hK, ?_,by simpa using hH.below hbel,hbel.mono hH.base⟩
    unfold tpE
    cases fM ⟨v,w',m,n,k,a⟩ (deE es) with
    |none=>exact .tuple (.cons (AVR.of_nil (oW _)) (.cons (.bool _) .nil))
    |some y=>exact .tuple (.cons (AVR.of_nil (oW _)) (.cons (.bool _) .nil))
   ·exact hK.elim
  ·exact hK.elim
 ·exact hK.elim

theorem E0{B:Gd}{ρ:List Sx.Loc}{h:Hp}{w w':World}{o:Nat→List Nat}(hH:HpR B ρ h w)(hO:ObjsO o B ρ h w){r:Nat}{k:Blk}{l:Sx.Loc}(hk:h.obj r=some k)(hty:k.ty=piT)(hl:At ρ r l)(hw:k.wr=true){L':List En}(hs:Sorted L'){own':List Nat}
  (hI:MapI w' l.b own' L') (hown:∀g∈own',g<w'.heap.size∧(g∈o r∨w.heap.size≤g)) (hbel:Bel (fun g=>g<w.heap.size∧g ∉ o r) w w'):HpR B ρ (h.set r (some ⟨true,piT,0,true,L'.map enE⟩)) w'∧Bel B w w':=by
 have h1:=hH.mutObj hO hk (by rw[hty];decide) hl hw (w':=w') (es:=L'.map enE) (own:=own') hbel (by rw[hty];exact .ext (E1 ⟨L',rfl,hs,hI⟩)) fun g hg=>⟨(hown g hg).1,fun hc=>by
  rcases (hown g hg).2 with h2|h2
  ·exact hc.2 h2
  ·have:=hc.1
   omega⟩
 rw[hty] at h1
 exact h1

theorem NR(hT:CH):eJ Tryz.prog 69 Dh:=by
 intro args h K hK B ρ w vs hH hv
 unfold Dh at hK
 split at hK
 ·rename_i r v w' m n k a
  split at hK
  ·rename_i wr ty esz fl es hb
   split at hK
   ·rename_i hty
    obtain⟨⟨hL,hlen,hle⟩,hK⟩:=hK
    obtain⟨v1,v2,rfl,hr1,hr2⟩:=hv.two_inv
    obtain⟨l,o,hl,rfl,hO,hI,hs,hlt⟩:=pz (k:=⟨true,ty,esz,fl,es⟩) hH hr1 hb (of_decide_eq_true hty) hL
    have e2:=um (x:=⟨v,w',m,n,k,a⟩) hr2
    subst e2
    refine .inl ⟨kH (P:=Tryz.prog) Tryz.func69 noNG (c:=(Tryz.f69.body.get (by kernel_rfl))) (by kernel_rfl) _ w,(Gz hT hI hlt _ hs hle hlen).mono ?_⟩
    rintro e W' ⟨rfl,own',h1,h2,hbel⟩
    obtain⟨g1,g2⟩:=E0 (k:=⟨true,ty,esz,fl,es⟩) hH hO hb (of_decide_eq_true hty) hl rfl (j9 _ _) h1 h2 hbel
    exact⟨[],_,_,hK, .tuple .nil,by simpa using g1,g2⟩
   ·exact hK.elim
  ·exact hK.elim
 ·exact hK.elim

theorem L8(hT:CH):eJ Tryz.prog 111 xP:=by
 intro args h K hK B ρ w vs hH hv
 unfold xP at hK
 split at hK
 ·rename_i r v w' m n k a
  split at hK
  ·rename_i wr ty esz fl es hb
   split at hK
   ·rename_i hty
    obtain⟨⟨hL,hlen,hne⟩,hK⟩:=hK
    obtain⟨v1,v2,rfl,hr1,hr2⟩:=hv.two_inv
    obtain⟨l,o,hl,rfl,hO,hI,hs,hlt⟩:=pz (k:=⟨true,ty,esz,fl,es⟩) hH hr1 hb (of_decide_eq_true hty) hL
    have e2:=um (x:=⟨v,w',m,n,k,a⟩) hr2
    subst e2
    refine .inl ⟨kH (P:=Tryz.prog) Tryz.func111 noNG (c:=(Tryz.f111.body.get (by kernel_rfl))) (by kernel_rfl) _ w,(Eo hT hI hlt _ (fun h=>hne (iC.2 h)) hlen).mono ?_⟩
    rintro e W' ⟨rfl,own',h1,h2,hbel⟩
    obtain⟨g1,g2⟩:=E0 (k:=⟨true,ty,esz,fl,es⟩) hH hO hb (of_decide_eq_true hty) hl rfl (Er hs) h1 h2 hbel
    exact⟨[],_,_,hK, .tuple .nil,by simpa using g1,g2⟩
   ·exact hK.elim
  ·exact hK.elim
 ·exact hK.elim

theorem O2(hS:eJ Tryz.prog 39 (ey [pEn] ja)):eJ Tryz.prog 74 Di:=by
 intro args h K hK B ρ w vs hH hv
 unfold Di at hK
 split at hK
 ·rename_i r
  split at hK
  ·rename_i wr ty esz fl es hb
   split at hK
   ·rename_i hty
    obtain⟨⟨hL,hlen⟩,hK⟩:=hK
    obtain⟨v1,rfl,hr1⟩:=hv.one_inv
    obtain⟨l,o,hl,rfl,hO,hI,hs,hlt⟩:=pz (k:=⟨wr,ty,esz,fl,es⟩) hH hr1 hb (of_decide_eq_true hty) hL
    refine .inl ⟨kH (P:=Tryz.prog) Tryz.func74 noNG (c:=(Tryz.f74.body.get (by kernel_rfl))) (by kernel_rfl) _ w,(vu hS hH hI hlt hs hlen).mono ?_⟩
    rintro e W' ⟨u,ρ',rfl,h1,h2,h3⟩
    have e1:es.length=(deE es).length:=by rw[deE,List.length_map]
    have e2:(deE es).map enA=es:=hL.symm
    rw[e2] at h2
    rw[←e1] at h1
    exact⟨ρ',_,_,hK,h1,h2,h3⟩
   ·exact hK.elim
  ·exact hK.elim
 ·exact hK.elim

def mR:List Arg→(Res→Prop)→Prop
 | [.v (.agg [.w64 v, .w64 w, .w64 m, .w64 n, .int .i64 k, .int .i64 a])],R=>R (.v (.agg [.w64 (v&&&m), .w64 (w&&&n), .w64 m, .w64 n, .int .i64 k, .int .i64 a]))
 |_,_=>False

noncomputable def k8:List (FuncId×Sx.Spec):=[(109,ey [none,none] CO)]

theorem A0(v w m n:BitVec 64)(k a:Int)(r:AV):run k8 Tryz.prog 71 [.agg [.w64 v, .w64 w, .w64 m, .w64 n, .int .i64 k, .int .i64 a]] [] [] (eM (.v r))=
  (Go.Sx.AV.agg [Go.Sx.AV.w64 (Go.Sx.M.selW (Go.Sx.M.wtB v w m n v w m n) (v&&&m|||v&&&m)),Go.Sx.AV.w64 (Go.Sx.M.selW (Go.Sx.M.wtB v w m n v w m n) (w&&&n|||w&&&n)),Go.Sx.AV.w64 (Go.Sx.M.selW (Go.Sx.M.wtB v w m n v w m n) (m|||m)),Go.Sx.AV.w64 (Go.Sx.M.selW (Go.Sx.M.wtB v w m n v w m n) (n|||n)),Go.Sx.AV.int Go.IntKind.i64 k,Go.Sx.AV.int Go.IntKind.i64 a]=r):=by kernel_rfl

theorem yl:∀e∈k8,eJ Tryz.prog e.1 e.2:=by
 intro e he
 simp only[k8,List.mem_cons,List.not_mem_nil,or_false] at he
 rcases he with rfl
 ·exact HJ

theorem oK:eJ Tryz.prog 71 (ey [none] mR):=by
 refine eK (eS (l:=k8) yl mixed noNG) fun l R hF=> ?_
 unfold mR at hF
 split at hF
 ·rename_i v w m n k a
  refine⟨_,hF,rfl,[], ?_⟩
  show run k8 Tryz.prog _ [.agg [.w64 v, .w64 w, .w64 m, .w64 n, .int .i64 k, .int .i64 a]] [] _ _
  rw[A0]
  rw[show wtB v w m n v w m n=true from by simp[wtB]]
  simp[selW]
 ·exact hF.elim

theorem vi(hg:globs=[]):CH:=by
 intro W x
 rcases oK [enE x] [] (fun y h'=>y=enE (tdE x)∧h'=[]) ⟨rfl,rfl⟩ (bl W.heap.size) [] W [eV x] (HpR.nil fun p hp=>by rw[hg] at hp;cases hp) (.cons (oW x) .nil) with⟨_,h⟩| ⟨u,w',hr,_⟩
 ·refine h.mono fun e W' he=> ?_
  cases e with
  |returned u=>
   obtain⟨ρ',y,h',⟨rfl,rfl⟩,hrel,_,hb⟩:=he
   exact⟨congrArg _ (um hrel),hb⟩
  |panicked c=>exact he.elim
  |outgrown=>exact he.elim
 ·have hent:(callFunc 71 [eV x].toArray).run Tryz.prog W= .ok (.enter 71 [eV x].toArray) W:=kH (P:=Tryz.prog) Tryz.func71 noNG (c:=(Tryz.f71.body.get (by kernel_rfl))) (by kernel_rfl) _ W
  rw[hent] at hr
  cases hr

end Go.Proofs.YtcabofadpheomaaGreat.L1
end

section
namespace Go.Proofs.YtcabofadpheomaaGreat.L1
open Go.Sx Go.Sx.M

def rH(F:List En→En→(AV→Prop)→Prop):Sx.Spec:=fun args h K=>match args with
 | [.mp r, .agg [.w64 v, .w64 w, .w64 m, .w64 n, .int .i64 k, .int .i64 a]]=>match h.obj r with
  |some ⟨_,ty,_,_,es⟩=>match decide (ty=piT) with
   |true=>es=(deE es).map enE∧F (deE es) ⟨v,w,m,n,k,a⟩ fun y=>K y h
   |false=>False
  |none=>False
 |_=>False

theorem Dg{C:Sx.Call}(hC:COK Tryz.prog false C){f:FuncId}{F:List En→En→(AV→Prop)→Prop}
  (hF:∀L x R,Sorted L→F L x R→∃y y',R y'∧(∀ρ u,AVR ρ y u→AVR ρ y' u)∧(Res.v y).ok∧∃hs,C f [.mp 0,enE x] [some ⟨false,piT,0,true,L.map enE⟩] hs (eM (.v y))):eJ Tryz.prog f (rH F):=by
 intro args h K hK B ρ w vs hH hv
 unfold rH at hK
 split at hK
 ·rename_i r v w' m n k a
  split at hK
  ·rename_i wr ty esz fl es hb
   split at hK
   ·rename_i hty
    have hty:=of_decide_eq_true hty
    obtain⟨hL,hK⟩:=hK
    obtain⟨v1,v2,rfl,hr1,hr2⟩:=hv.two_inv
    obtain⟨l,o,hl,rfl,hO,hI,hs,hlt⟩:=pz (k:=⟨wr,ty,esz,fl,es⟩) hH hr1 hb hty hL
    obtain⟨_,_,_,hoff⟩:=hO.is r ⟨wr,ty,esz,fl,es⟩ l hb hl
    obtain⟨y,y',hRy,hyy,hok,hs2,hc⟩:=hF _ _ _ hs hK
    have get0:∀{r:Nat} {k:Option Blk},([some ⟨false,piT,0,true,(deE es).map enE⟩]:Hp)[r]?=some k→r=0∧k=some ⟨false,piT,0,true,(deE es).map enE⟩:=by
     intro r k hk
     cases r with
     |zero=>exact⟨rfl,(Option.some.inj hk).symm⟩
     |succ r=>simp at hk
    have at0:∀{r:Nat} {l':Sx.Loc},At [l] r l'→l'=l:=by
     rintro r l' ⟨h1,_⟩
     cases r with
     |zero=>exact (Option.some.inj h1).symm
     |succ r=>simp at h1
    have hHc:HpR (bl w.heap.size) [l] [some ⟨false,piT,0,true,(deE es).map enE⟩] w:=by
     refine⟨rfl, .refl _,fun r k l' hk _=> ?_,fun r r' k k' l1 l2 hk=> ?_,hH.glob.mono hH.base,fun _=>o r, ?_, ?_, ?_, ?_⟩
     ·obtain⟨h1,h2⟩:=eN.1 hk
      obtain⟨_,e⟩:=get0 h1
      cases e;exact absurd rfl h2
     ·obtain⟨h1,h2⟩:=eN.1 hk
      obtain⟨_,e⟩:=get0 h1
      cases e;exact absurd rfl h2
     ·intro r2 k2 l2 hk hl2
      obtain⟨h1,h2⟩:=eR.1 hk
      obtain⟨_,e⟩:=get0 h1
      cases e
      rw[at0 hl2]
      exact⟨.ext (E1 ⟨_,rfl,hs,hI⟩),hlt,fun h=>Bool.noConfusion h,hoff⟩
     ·intro r2 r3 k2 k3 l2 l3 _ hk
      obtain⟨h1,h2⟩:=eN.1 hk
      obtain⟨_,e⟩:=get0 h1
      cases e;exact absurd rfl h2
     ·intro r2 r3 k2 k3 l2 l3 hk hk3 hne
      obtain⟨h1,_⟩:=eR.1 hk
      obtain⟨h3,_⟩:=eR.1 hk3
      exact absurd ((get0 h1).1.trans (get0 h3).1.symm) hne
     ·intro r2 k2 hk
      obtain⟨h1,_⟩:=eR.1 hk
      rw[(get0 h1).1]
      exact⟨l,rfl,hl.2⟩
    have hargs:AVRs [l] [.mp 0,enE ⟨v,w',m,n,k,a⟩] [.map (some l.b),v2]:= .cons (.mp ⟨rfl,hl.2⟩) (.cons (by rw[um (x:=⟨v,w',m,n,k,a⟩) hr2];exact AVR.of_nil (oW _)) .nil)
    have conv:∀u w2,(∃ρ' y2 h' hs',eM (.v y) y2 h' hs'∧AVR ([l]++ρ') y2 u∧HpR (bl w.heap.size) ([l]++ρ') h' w2∧Bel (if false=true then bl w.heap.size else bl w.heap.size) w w2∧(false=true→([some ⟨false,piT,0,true,(deE es).map enE⟩]:Hp)<+:h'))→
      ∃ρ' x h',K x h'∧AVR (ρ++ρ') x u∧HpR B (ρ++ρ') h' w2∧Bel B w w2:=by
     rintro u w2 ⟨ρ',y2,h2,hs',hy,hr,hh,hb2,_⟩
     obtain⟨ρ'',x,h3,⟨rfl,rfl⟩,g1,g2,g3⟩:=B4 (K:=fun a h'=>a=y∧h'=h) (r:= .v y) hH ⟨rfl,rfl⟩ hok hy hr hh (by simpa using hb2)
     exact⟨ρ'',y',_,hRy,hyy _ _ g1,g2,g3⟩
    rcases hC f _ _ hs2 _ hc (bl w.heap.size) [l] w _ hHc hargs with⟨hr,hcl⟩| ⟨v',w2,hr,hl'⟩
    ·exact .inl ⟨hr,hcl.mono fun e w2 he=>by cases e with
      |returned v=>exact conv v w2 he
      |panicked c=>exact he
      |outgrown=>exact he⟩
    ·exact .inr ⟨v',w2,hr,conv v' w2 hl'⟩
   ·exact hK.elim
  ·exact hK.elim
 ·exact hK.elim

end Go.Proofs.YtcabofadpheomaaGreat.L1
end

section
namespace Go.Proofs.YtcabofadpheomaaGreat.L1
open Go.Sx Go.Sx.M

def pnZ:En:=⟨0#64,0#64,0#64,0#64,0,0⟩
def pnH(F:List En→List AV)(x:En)(L acc:List En):Hp:=
 [some ⟨false,134,0,true,L.map enE⟩,some ⟨true,44,6,true,[enE pnZ]⟩,some ⟨true,44,6,true,[.agg [.w64 (x.v&&&x.m), .w64 (x.w&&&x.n), .w64 x.m, .w64 x.n, .int .i64 x.len, .int .i64 x.act]]⟩,some ⟨true,44,6,true,F acc⟩]
def Iu(F:List En→List AV)(x:En)(L:List En)(p:BitVec 64×List En):St:=
 ⟨[.mp 0, .any, .any, .any, .ptr 1 0 0 true, .lit (.bool false), .vsl 3 0 p.2.length, .ptr 2 0 0 true, .lit (.int .i64 0), .w64 p.1, .any, .any, .any, .any, .any, .any, .any, .agg [.w64 x.m, .w64 x.n], .lit (.int .i64 0), .any, .any, .any, .any, .any, .any, .any, .any, .any, .any, .any, .any, .any, .any, .any, .any, .any, .any, .any, .any, .any, .any, .any, .any, .any, .any, .any, .any, .any, .any, .any, .any, .any, .any, .any, .any, .any, .any, .any, .any, .any, .any, .any, .any, .any, .any, .any, .any, .any, .any],pnH F x L p.2⟩
def Is(F:List En→List AV)(x:En)(L:List En)(p:BitVec 64×List En):St:=
 ⟨[.mp 0, .any, .any, .any, .ptr 1 0 0 true, .lit (.bool false), .vsl 3 0 p.2.length, .ptr 2 0 0 true, .lit (.int .i64 1), .w64 p.1, .any, .any, .any, .any, .any, .any, .any, .agg [.w64 x.m, .w64 x.n], .lit (.int .i64 1), .any, .any, .any, .any, .any, .any, .any, .any, .any, .any, .any, .any, .any, .any, .any, .any, .any, .any, .any, .any, .any, .any, .any, .any, .any, .any, .any, .any, .any, .any, .any, .any, .any, .any, .any, .any, .any, .any, .any, .any, .any, .any, .any, .any, .any, .any, .any, .any, .any, .any],pnH F x L p.2⟩
def Q4:Modes:=⟨[1,0,0,0,1,1,1,1,1,1,0,0,0,0,0,0,0,1,1,0,0,0,0,0,0,0,0,0,0,0,0,0,0,0,0,0,0,0,0,0,0,0,0,0,0,0,0,0,0,0,0,0,0,0,0,0,0,0,0,0,0,0,0,0,0,0,0,0,0],[],[2,4,7],[],[(6,44,6)]⟩
def pnM:Modes:=⟨[1,0,0,0,1,1,1,1,1,1,0,0,0,0,0,0,0,1,1,0,0,0,0,0,0,0,0,0,0,0,0,0,0,0,0,0,0,0,0,0,0,0,0,0,0,0,0,0,0,0,0,0,0,0,0,0,0,0,0,0,0,0,0,0,0,0,0,0,0],[],[1,4,7],[],[]⟩
def PK:Modes:=⟨[1,0,0,0,1,1,1,1,0,0,0,0,0,0,0,0,0,1,1,0,0,0,0,0,0,0,0,0,0,0,0,0,0,0,0,0,0,0,0,0,0,0,0,0,0,0,0,0,0,0,0,0,0,0,0,0,0,0,0,0,0,0,0,0,0,0,0,0,0],[],[1,4,7],[],[]⟩
def pnR(F:List En→List AV)(x:En)(L:List En)(j:Bool)(p:BitVec 64×List En):List Hint:=
 [.fork [.fork [.rows (F (p.2++[tpE (match j with|false=>⟨(x.v&&&x.m)^^^(p.1&&& -p.1),x.w&&&x.n,x.m,x.n,x.len,x.act⟩|true=>⟨x.v&&&x.m,(x.w&&&x.n)^^^(p.1&&& -p.1),x.m,x.n,x.len,x.act⟩) L]))] []] []]
def Q5:AV:= .func (.func 78) [] []
def PJ(F:List En→List AV)(x:En)(L acc:List En)(p:Nat×Nat):St:=
 ⟨[.vsl 3 0 acc.length,Q5, .any, .any, .ptr 4 0 0 true, .ptr 5 0 0 true, .int .i64 p.1, .any, .any, .any, .any, .any, .any, .any, .any, .any, .any, .any, .any, .any, .any, .any, .any, .any, .any, .any, .any, .any, .any, .any, .any, .any, .any],
  [some ⟨false,134,0,true,L.map enE⟩,some ⟨true,44,6,true,[enE pnZ]⟩,some ⟨true,44,6,true,[.agg [.w64 (x.v&&&x.m), .w64 (x.w&&&x.n), .w64 x.m, .w64 x.n, .int .i64 x.len, .int .i64 x.act]]⟩,some ⟨true,44,6,true,F acc⟩,some ⟨true,44,6,true,[enE pnZ]⟩,some ⟨true,44,6,true,[enE (at' acc p.2)]⟩]⟩
structure pnI(l:List En)(i j:Nat):Prop where
 is:MnI l i (at' l j)
 lt:j<l.length
def Q2:Modes:=⟨[1,1,0,0,1,1,2,0,0,0,0,0,0,0,0,0,0,0,0,0,0,0,0,0,0,0,0,0,0,0,0,0,0],[],[2],[],[]⟩
def pnN:Modes:=⟨[1,1,0,0,1,1,1,0,0,0,0,0,0,0,0,0,0,0,0,0,0,0,0,0,0,0,0,0,0,0,0,0,0],[],[],[],[]⟩
def Q3:Modes:=⟨[0,0,0,0,1,1,0,0,0,0,0,0,0,0,0,0,0,0,0,0,0,0,0,0,0,0,0,0,0,0,0,0,0],[],[],[],[]⟩
def PL(F:List En→List AV)(x:En)(L:List En):List Hint:=
 [.loop 3, .linv _ (x.m,[]) (Iu F x L) (fun p=>PaI x L p.1 x.n p.2) (fun p=>65-ip p.1) Q4 pnM PK (fun p0=>
  [.linv _ (x.n,p0.2) (Is F x L) (fun p=>PaI x L 0#64 p.1 p.2) (fun p=>65-ip p.1) pnM pnM PK (fun p1=>
   [.fork [] [.br false, .cell (enE (at' p1.2 0)), .linv _ (1,0) (PJ F x L p1.2) (fun p=>pnI p1.2 p.1 p.2) (fun p=>p1.2.length+1-p.1) Q2 pnN Q3 (fun _=>[]) fun p=>
    [.fork [.dy, .cell (enE (at' p1.2 p.1)), .fork [.dy, .cell (enE (at' p1.2 p.1)), .nw] [.nw]] []]]]) (pnR F x L true)]) (pnR F x L false)]

noncomputable def Iv:List (FuncId×Sx.Spec):=[(71,ey [none] mR),(70,xO),(78,ey [none,none] jm)]

theorem NT(F:List En→List AV)(x:En)(L:List En)(y:AV):run Iv Tryz.prog 72 [.mp 0,enE x] [some ⟨false,134,0,true,L.map enE⟩] (PL F x L) (eM (.v y))=
  (let aF:=St.mk;let az:=(140737488355328:Nat);let ax:=x.2&&&x.4;let aw:=x.1&&&x.3;let ar:=(9223372036854775807:Nat);let aq:=List.map enE;let am:=Blk.mk true (44:Nat) (6:Nat) true;let ak:=(1:Int);let ae:=(65:Nat);let ad:=AV.agg;let S:=AV.lit (Value.bool false);let R:=(0:Int);let N:=deE (aq L);let ac:=aq L=aq N∧List.length N≤(1000000:Nat);let M:=AV.lit (Value.int IntKind.i64 ak);let K:=AV.lit (Value.int IntKind.i64 R);let H:=BitVec.ofInt (64:Nat) R;let z:=AV.w64;let W:=ad [z x.3,z x.4];let u:=Blk.mk true (nat_lit 44) (6:Nat) true;let t:=Blk.mk true (44:TypeId) (6:Nat) true;let s:=(1:Nat);let q:=(0:Nat);let av:=AV.mp q;let ao:=AV.ptr (q+s+s+s+s) q q true;let al:=AV.ptr (q+s+s+s+s+s) q q true;let V:=AV.ptr (q+s) q q true;let Q:=AV.ptr (q+s+s) q q true;let P:=AV.vsl (q+s+s+s) q;let E:=BitVec.ofNat (64:Nat) q;let w:=Blk.mk false (134:TypeId) q true (aq L);let o:=AV.int IntKind.i64;let an:=[ad [z E,z E,z E,z E,o R,o R]];let B:=[ad [z aw,z ax,z x.3,z x.4,o x.5,o x.6]];let r:=ad [z (H),z (H),z (H),z (H),o R,o R];let ap:=[some w,some (u [r]),some (u B)];let k:=AV.any;let j:=t an;((aF [av,k,k,k,V,S,AV.vsl (List.length ap) q q,Q,K,z x.3,k,k,k,k,k,k,k,W,K,k,k,k,k,k,k,k,k,k,k,k,k,k,k,k,k,k,k,k,k,k,k,k,k,k,k,k,k,k,k,k,k,k,k,k,k,k,k,k,k,k,k,k,k,k,k,k,k,k,k] (ap++[some (t [])])=Iu F x L (x.3,[])∧PaI x L x.3 x.4 [])∧∀(a:BitVec (64:Nat)×List En),let aC:=z (a.1^^^a.1&&& -a.1);let Z:=List.length a.2;let T:=u [ad [z (x.1&&&x.3^^^a.1&&& -a.1^^^a.1&&& -a.1),z ax,z x.3,z x.4,o x.5,o x.6]];let I:=En.mk (x.1&&&x.3^^^a.1&&& -a.1) ax x.3 x.4 x.5 x.6;let aB:=Option.isSome (fM I N);let l:=tpE (En.mk (En.v x&&&En.m x^^^Prod.fst a&&& -Prod.fst a) (En.w x&&&En.n x) (En.m x) (En.n x) (En.len x) (En.act x)) N;let af:=[ad [z l.1,z l.2,z l.3,z l.4,o l.5,o l.6]];PaI x L a.1 x.4 a.2→((a.1 !=H)=true→ac∧(aB=true→((Z+s)*(48:Nat)≤az∧Z+s≤ar∧q+s≤List.length af∧Z≤List.length (F a.2))∧List.take (Z) (F a.2)++af=F (a.2++[tpE I L])∧∃(b:BitVec (64:Nat)×List En),aF [av,k,k,k,V,S,P (Z+s),Q,K,aC,k,k,k,k,k,k,k,W,K,k,k,k,k,k,k,k,k,k,k,k,k,k,k,k,k,k,k,k,k,k,k,k,k,k,k,k,k,k,k,k,k,k,k,k,k,k,k,k,k,k,k,k,k,k,k,k,k,k,k] [some w,some j,some T,some (am (F (a.2++[tpE I L])))]=Iu F x L b∧PaI x L b.1 x.4 b.2∧ae-ip b.1<ae-ip a.1)∧(aB=false→∃(c:BitVec (64:Nat)×List En),aF [av,k,k,k,V,S,P (Z),Q,K,aC,k,k,k,k,k,k,k,W,K,k,k,k,k,k,k,k,k,k,k,k,k,k,k,k,k,k,k,k,k,k,k,k,k,k,k,k,k,k,k,k,k,k,k,k,k,k,k,k,k,k,k,k,k,k,k,k,k,k,k] [some w,some j,some T,some (t (F a.2))]=Iu F x L c∧PaI x L c.1 x.4 c.2∧ae-ip c.1<ae-ip a.1))∧((a.1 !=H)=false→(aF [av,k,k,k,V,S,P (Z),Q,M,z x.4,k,k,k,k,k,k,k,W,M,k,k,k,k,k,k,k,k,k,k,k,k,k,k,k,k,k,k,k,k,k,k,k,k,k,k,k,k,k,k,k,k,k,k,k,k,k,k,k,k,k,k,k,k,k,k,k,k,k,k] [some w,some j,some (t B),some (t (F a.2))]=Is F x L (x.4,a.2)∧PaI x L E x.4 a.2)∧∀(d:BitVec (64:Nat)×List En),let aE:=z (d.1^^^d.1&&& -d.1);let ay:=PJ F x L d.2;let aj:=t (F d.2);let U:=u [ad [z aw,z (x.2&&&x.4^^^d.1&&& -d.1^^^d.1&&& -d.1),z x.3,z x.4,o x.5,o x.6]];let J:=En.mk aw (x.2&&&x.4^^^d.1&&& -d.1) x.3 x.4 x.5 x.6;let aD:=Option.isSome (fM J N);let G:=List.length d.2;let aa:=(↑(G):Int);let n:=at' (Prod.snd d);let ab:=ad [z (n q).1,z (n q).2,z (n q).3,z (n q).4,o (n q).5,o (n q).6];let m:=tpE (En.mk (En.v x&&&En.m x) (En.w x&&&En.n x^^^Prod.fst d&&& -Prod.fst d) (En.m x) (En.n x) (En.len x) (En.act x)) N;let ag:=[ad [z m.1,z m.2,z m.3,z m.4,o m.5,o m.6]];PaI x L E d.1 d.2→((d.1 !=H)=true→ac∧(aD=true→((G+s)*(48:Nat)≤az∧G+s≤ar∧q+s≤List.length ag∧G≤List.length (F d.2))∧List.take (G) (F d.2)++ag=F (d.2++[tpE J L])∧∃(e:BitVec (64:Nat)×List En),aF [av,k,k,k,V,S,P (G+s),Q,M,aE,k,k,k,k,k,k,k,W,M,k,k,k,k,k,k,k,k,k,k,k,k,k,k,k,k,k,k,k,k,k,k,k,k,k,k,k,k,k,k,k,k,k,k,k,k,k,k,k,k,k,k,k,k,k,k,k,k,k,k] [some w,some j,some U,some (am (F (d.2++[tpE J L])))]=Is F x L e∧PaI x L E e.1 e.2∧ae-ip e.1<ae-ip d.1)∧(aD=false→∃(f:BitVec (64:Nat)×List En),aF [av,k,k,k,V,S,P (G),Q,M,aE,k,k,k,k,k,k,k,W,M,k,k,k,k,k,k,k,k,k,k,k,k,k,k,k,k,k,k,k,k,k,k,k,k,k,k,k,k,k,k,k,k,k,k,k,k,k,k,k,k,k,k,k,k,k,k,k,k,k,k] [some w,some j,some U,some aj]=Is F x L f∧PaI x L E f.1 f.2∧ae-ip f.1<ae-ip d.1))∧((d.1 !=H)=false→((aa==R)=true→AV.tuple [r,AV.bool false]=y)∧((aa==R)=false→Decidable.decide (aa<ak)=false∧(R≤R∧R<aa)∧Blk.read Proofs.Tryz.prog aj (44:Nat) (q+Int.toNat R) q=some (ab)∧(aF [P (G),AV.func (Fn.func (78:Nat)) [] [],k,k,ao,al,o ak,k,k,k,k,k,k,k,k,k,k,k,k,k,k,k,k,k,k,k,k,k,k,k,k,k,k] [some w,some (u an),some (u B),some (u (List.map canon (F d.2))),some (u [r]),some (u [ab])]=ay (s,q)∧pnI d.2 s q)∧∀(g:Nat×Nat),let X:=(↑g.1:Int);let aA:=Decidable.decide (X<aa);let au:=inRange IntKind.i64 (X+ak);let D:=aF [P (G),AV.func (Fn.func (78:FuncId)) [] [],k,k,ao,al,o (X+ak),k,k,k,k,k,k,k,k,k,k,k,k,k,k,k,k,k,k,k,k,k,k,k,k,k,k];let C:=n (Prod.snd g);let ai:=ad [z C.1,z C.2,z C.3,z C.4,o C.5,o C.6];let A:=n (Prod.fst g);let ah:=ad [z A.1,z A.2,z A.3,z A.4,o A.5,o A.6];let Y:=Decidable.decide (cpE (En.mk A.1 A.2 A.3 A.4 A.5 A.6) (En.mk C.1 C.2 C.3 C.4 C.5 C.6)<R);let O:=Blk.read Proofs.Tryz.prog aj (44:Nat) (q+Int.toNat X) q=some (ah);pnI d.2 g.1 g.2→(aA=true→(R≤X∧X<aa)∧O∧(Y=true→(R≤X∧X<aa)∧O∧au∧∃(h:Nat×Nat),D [some w,some j,some (t B),some aj,some j,some (u [ah])]=ay h∧pnI d.2 h.1 h.2∧G+s-h.1<G+s-g.1)∧(Y=false→au∧∃(i:Nat×Nat),D [some w,some j,some (t B),some aj,some j,some (t [ai])]=ay i∧pnI d.2 i.1 i.2∧G+s-i.1<G+s-g.1))∧(aA=false→AV.tuple [ai,AV.bool true]=y)))))):=by kernel_rfl

theorem Lf(hT:eJ Tryz.prog 71 (ey [none] mR)):∀e∈Iv,eJ Tryz.prog e.1 e.2:=by
 intro e he
 simp only[Iv,List.mem_cons,List.not_mem_nil,or_false] at he
 rcases he with rfl|rfl|rfl
 ·exact hT
 ·exact HR
 ·exact ri

def JE(L:List En)(x:En)(R:AV→Prop):Prop:=L.length≤1000000∧(∀z,paE x L=some z→R (.tuple [enE z, .lit (.bool true)]))∧(paE x L=none→R (.tuple [enE pnZ, .lit (.bool false)]))

theorem Kr(l:List En):(l.map enE).map canon=l.map enE:=by
 rw[List.map_map];rfl

theorem xd{p:En}{L:List En}(h:(fM p L).isSome=true):fM p L=some (tpE p L):=by
 unfold tpE
 cases ht:fM p L with
 |none=>rw[ht] at h;cases h
 |some t=>rfl

theorem qB{α:Type}{o:Option α}(h:o.isSome=false):o=none:=by
 cases o with
 |none=>rfl
 |some a=>cases h

theorem Ip{x:En}{L:List En}{r s:BitVec 64}{acc:List En}(h:PaI x L r s acc)(hr:r≠0#64)(ht:(fM ⟨x.v&&&x.m^^^(r&&& -r),x.w&&&x.n,x.m,x.n,x.len,x.act⟩ L).isSome=true):
  PaI x L (r^^^(r&&& -r)) s (acc++[tpE ⟨x.v&&&x.m^^^(r&&& -r),x.w&&&x.n,x.m,x.n,x.len,x.act⟩ L]):=by
 have h1:=h.step0 hr
 rw[show pqE x (r&&& -r) 0#64=⟨x.v&&&x.m^^^(r&&& -r),x.w&&&x.n,x.m,x.n,x.len,x.act⟩ by simp[pqE],xd ht] at h1
 exact h1

theorem Ir{x:En}{L:List En}{r s:BitVec 64}{acc:List En}(h:PaI x L r s acc)(hr:r≠0#64)(ht:(fM ⟨x.v&&&x.m^^^(r&&& -r),x.w&&&x.n,x.m,x.n,x.len,x.act⟩ L).isSome=false):
  PaI x L (r^^^(r&&& -r)) s acc:=by
 have h1:=h.step0 hr
 rw[show pqE x (r&&& -r) 0#64=⟨x.v&&&x.m^^^(r&&& -r),x.w&&&x.n,x.m,x.n,x.len,x.act⟩ by simp[pqE],qB ht] at h1
 simpa using h1

theorem Io{x:En}{L:List En}{r s:BitVec 64}{acc:List En}(h:PaI x L r s acc)(hr:s≠0#64)(ht:(fM ⟨x.v&&&x.m,x.w&&&x.n^^^(s&&& -s),x.m,x.n,x.len,x.act⟩ L).isSome=true):
  PaI x L r (s^^^(s&&& -s)) (acc++[tpE ⟨x.v&&&x.m,x.w&&&x.n^^^(s&&& -s),x.m,x.n,x.len,x.act⟩ L]):=by
 have h1:=h.step1 hr
 rw[show pqE x 0#64 (s&&& -s)=⟨x.v&&&x.m,x.w&&&x.n^^^(s&&& -s),x.m,x.n,x.len,x.act⟩ by simp[pqE],xd ht] at h1
 exact h1

theorem Iq{x:En}{L:List En}{r s:BitVec 64}{acc:List En}(h:PaI x L r s acc)(hr:s≠0#64)(ht:(fM ⟨x.v&&&x.m,x.w&&&x.n^^^(s&&& -s),x.m,x.n,x.len,x.act⟩ L).isSome=false):
  PaI x L r (s^^^(s&&& -s)) acc:=by
 have h1:=h.step1 hr
 rw[show pqE x 0#64 (s&&& -s)=⟨x.v&&&x.m,x.w&&&x.n^^^(s&&& -s),x.m,x.n,x.len,x.act⟩ by simp[pqE],qB ht] at h1
 simpa using h1

theorem nT{r:BitVec 64}(h:r≠0#64):65-ip (r^^^(r&&& -r))<65-ip r:=by
 have h1:=qF h
 have h2:=tI (r^^^(r&&& -r))
 omega

theorem o7(a b:BitVec 64):a^^^b^^^b=a:=by rw[BitVec.xor_assoc,BitVec.xor_self,BitVec.xor_zero]

theorem JD:eJ Tryz.prog 72 (rH JE):=by
 refine Dg (eS (l:=Iv) (Lf oK) mixed noNG) fun L x R hs hF=>⟨.tuple [enE ((paE x L).getD pnZ), .bool (paE x L).isSome], .tuple [enE ((paE x L).getD pnZ), .lit (.bool (paE x L).isSome)], ?_,fun ρ u h=> ?_,rfl,PL (List.map enE) x L, ?_⟩
 ·cases hp:paE x L with
  |none=>exact hF.2.2 hp
  |some z=>exact hF.2.1 z hp
 ·cases h with
  |tuple h=>cases h with|cons h0 h=>cases h with|cons h1 h=>cases h;cases h1;exact .tuple (.cons h0 (.cons (.lit _) .nil))
 have hL:=hF.1
 clear hF
 show run Iv Tryz.prog _ [.mp 0,enE x] [some ⟨false,134,0,true,L.map enE⟩] _ _
 rw[NT];(conv=>zeta)
 simp only[gg]
 have hw:∀{r:BitVec 64},(r !=BitVec.ofInt 64 0)=true→r≠0#64:=fun h=>by simpa using h
 have hz:∀{r:BitVec 64},(r !=BitVec.ofInt 64 0)=false→r=0#64:=fun h=>by simpa using h
 refine⟨⟨rfl,PaI.start x L⟩,fun p hp=>⟨fun hr=>⟨⟨trivial,hL⟩,fun ht=>⟨?_, ?_, ?_⟩,fun ht=> ?_⟩,fun hr=>⟨⟨rfl, ?_⟩,fun p1 hp1=>⟨fun hr1=>⟨⟨trivial,hL⟩,fun ht=>⟨?_, ?_, ?_⟩,fun ht=> ?_⟩,fun hr1=> ?_⟩⟩⟩⟩
 ·have:=hp.few
  exact⟨by omega,by omega,Nat.le_refl _,by simp⟩
 ·rw[List.take_of_length_le (by simp),List.map_append];rfl
 ·refine⟨(p.1^^^(p.1&&& -p.1),p.2++[tpE ⟨x.v&&&x.m^^^(p.1&&& -p.1),x.w&&&x.n,x.m,x.n,x.len,x.act⟩ L]), ?_,Ip hp (hw hr) ht,nT (hw hr)⟩
  rw[o7]
  unfold Iu
  rw[List.length_append]
  rfl
 ·refine⟨(p.1^^^(p.1&&& -p.1),p.2), ?_,Ir hp (hw hr) ht,nT (hw hr)⟩
  rw[o7]
  rfl
 ·rw[hz hr] at hp;exact hp
 ·have:=hp1.few
  exact⟨by omega,by omega,Nat.le_refl _,by simp⟩
 ·rw[List.take_of_length_le (by simp),List.map_append];rfl
 ·refine⟨(p1.1^^^(p1.1&&& -p1.1),p1.2++[tpE ⟨x.v&&&x.m,x.w&&&x.n^^^(p1.1&&& -p1.1),x.m,x.n,x.len,x.act⟩ L]), ?_,Io hp1 (hw hr1) ht,nT (hw hr1)⟩
  rw[o7]
  unfold Is
  rw[List.length_append]
  rfl
 ·refine⟨(p1.1^^^(p1.1&&& -p1.1),p1.2), ?_,Iq hp1 (hw hr1) ht,nT (hw hr1)⟩
  rw[o7]
  rfl
 ·rw[hz hr1] at hp1
  obtain⟨r1,acc⟩:=p1
  dsimp only at hp1⊢
  have hfew:=hp1.few
  have rd:∀k:Int,0≤k→k< (acc.length:Int)→Blk.read Tryz.prog ⟨true,44,6,true,acc.map enE⟩ 44 (0+k.toNat) 0=some (enE (at' acc k.toNat)):=fun k h0 h1=>eL h0 (by rw[List.length_map];exact h1) (fK _)
  refine⟨fun h0=> ?_,fun h0=> ?_⟩
  ·have hn:acc=[]:=List.length_eq_zero_iff.1 (by have:=eq_of_beq h0;omega)
   rw[hp1.none hn]
   rfl
  ·have hn:1≤acc.length:=by
    have:¬(acc.length:Int)=0:=by simpa using h0
    omega
   refine⟨by simp;omega,⟨by omega,by omega⟩,rd 0 (by omega) (by omega),⟨?_,MnI.start hn,hn⟩,fun q hq=>⟨fun hlt=>⟨?_, ?_,fun hc=>⟨?_, ?_, ?_, ?_⟩,fun hc=>⟨?_, ?_⟩⟩,fun hlt=> ?_⟩⟩
   ·rw[Kr];rfl
   all_goals have hq1:=hq.is.le
   all_goals simp only[decide_eq_true_eq,decide_eq_false_iff_not] at hlt
   ·exact⟨by omega,by omega⟩
   ·exact rd _ (by omega) (by omega)
   ·exact⟨by omega,by omega⟩
   ·exact rd _ (by omega) (by omega)
   ·exact inR (by omega) (by omega)
   ·exact⟨(q.1+1,q.1),rfl,⟨hq.is.less (by omega) (of_decide_eq_true hc),by dsimp only;omega⟩,by dsimp only;omega⟩
   ·exact inR (by omega) (by omega)
   ·exact⟨(q.1+1,q.2),rfl,⟨hq.is.more (by omega) (of_decide_eq_false hc),hq.lt⟩,by dsimp only;omega⟩
   ·have e:q.1=acc.length:=by omega
    have h1:=hq.is
    rw[e] at h1
    rw[hp1.first hs h1.mem h1.least]
    rfl

end Go.Proofs.YtcabofadpheomaaGreat.L1
end

section
namespace Go.Proofs.YtcabofadpheomaaGreat.L1
open Go.Sx Go.Sx.M

def mwL(l:List En)(k:Nat):List En:=(srE l).drop k

def Oh(F:List En→List AV)(l L:List En):Hp:=
 [some ⟨false,44,6,true,l.map enE⟩,some ⟨true,44,6,true,F (srE l)⟩,some ⟨true,134,0,true,L.map enE⟩,some ⟨true,134,1,false,[.mp 2]⟩,some ⟨true,29,1,false,[.vsl 1 0 (F (srE l)).length]⟩]
def IX(F:List En→List AV)(l:List En)(y:Nat)(k:Nat):St:=
 ⟨[.func (.yield y) [] [], .ptr 4 0 0 true, .any, .int .i64 ((k:Int)-1), .any, .any, .any, .any, .any, .any, .any, .any, .any, .any, .any, .any, .any, .any, .any],Oh F l (mwL l k)⟩
def PY:Modes:=⟨[1,1,0,1,0,0,0,0,0,0,0,0,0,0,0,0,0,0,0],[],[],[],[]⟩
def Rk:Modes:=⟨[1,1,0,0,0,0,0,0,0,0,0,0,0,0,0,0,0,0,0],[],[],[],[]⟩
def IY(F:List En→List AV)(l L:List En)(r:Nat)(h:Hp):Hp:=
 [some ⟨false,44,6,true,l.map enE⟩,some ⟨true,44,6,true,F (srE l)⟩,some ⟨true,134,1,false,[.mp r]⟩]++(h++[some ⟨true,134,0,true,L.map enE⟩])
def IW(F:List En→List AV)(l:List En)(p:Nat×List En):St:=
 ⟨[.any, .any, .lit (.slice none 0 0), .vsl 1 0 (F (srE l)).length, .ptr 2 0 0 true, .any, .any, .any, .any, .any, .any, .any, .any, .any, .any, .any, .any, .any, .any, .any, .any, .any, .any, .vsl 1 0 (F (srE l)).length, .int .i64 (F (srE l)).length, .int .i64 p.1, .any, .any, .any, .any, .any, .any, .any, .any, .any, .any, .any, .any, .any, .any, .any, .any, .any, .any, .any, .any, .any, .any, .any, .any, .any, .any, .any, .any, .any, .any, .any],IY F l p.2 3 []⟩
def Og(F:List En→List AV)(l:List En)(i:Nat)(p:En×List En):St:=
 ⟨[.any, .any, .lit (.slice none 0 0), .vsl 1 0 (F (srE l)).length, .ptr 2 0 0 true, .any, .any, .any, .ptr 3 0 0 true, .any, .any, .any, .any, .any, .any, .any, .any, .any, .any, .any, .any, .any, .any, .vsl 1 0 (F (srE l)).length, .int .i64 (F (srE l)).length, .int .i64 i, .any, .any, .any, .any, .any, .any, .any, .any, .any, .any, .any, .any, .any, .any, .any, .any, .any, .any, .any, .any, .any, .any, .any, .any, .any, .any, .any, .any, .any, .any, .any],IY F l p.2 4 [some ⟨true,44,6,true,[enE p.1]⟩]⟩
def Rh(F:List En→List AV)(l:List En)(p:Nat×List En):St:=
 ⟨[.any, .any, .lit (.slice none 0 0), .vsl 1 0 (F (srE l)).length, .ptr 2 0 0 true, .any, .any, .any, .ptr 3 0 0 true, .ptr 4 0 0 true, .bool (fM (tdE (at' (srE l) p.1)) p.2).isSome, .any, .any, .any, .any, .any, .any, .any, .any, .any, .any, .any, .any, .vsl 1 0 (F (srE l)).length, .int .i64 (F (srE l)).length, .int .i64 p.1, .any, .any, .any, .any, .any, .any, .any, .any, .any, .any, .any, .any, .any, .any, .any, .any, .any, .any, .any, .any, .any, .any, .any, .any, .any, .any, .any, .any, .any, .any, .any],IY F l p.2 5 [some ⟨true,44,6,true,[enE (at' (srE l) p.1)]⟩,some ⟨true,44,6,true,[enE (tpE (tdE (at' (srE l) p.1)) p.2)]⟩]⟩
def mwX:Modes:=⟨[0,0,1,1,1,0,0,0,1,1,1,0,0,0,0,0,0,0,0,0,0,0,0,1,1,1,0,0,0,0,0,0,0,0,0,0,0,0,0,0,0,0,0,0,0,0,0,0,0,0,0,0,0,0,0,0,0],[],[],[],[]⟩
def Ri:Modes:=⟨[0,0,1,1,1,0,0,0,0,0,0,0,0,0,0,0,0,0,0,0,0,0,0,1,1,2,0,0,0,0,0,0,0,0,0,0,0,0,0,0,0,0,0,0,0,0,0,0,0,0,0,0,0,0,0,0,0],[],[],[],[]⟩
def mwP:Modes:=⟨[0,0,1,1,1,0,0,0,0,0,0,0,0,0,0,0,0,0,0,0,0,0,0,1,1,1,0,0,0,0,0,0,0,0,0,0,0,0,0,0,0,0,0,0,0,0,0,0,0,0,0,0,0,0,0,0,0],[],[],[],[]⟩
def Rj:Modes:=⟨[0,0,1,1,1,0,0,0,0,0,0,0,0,0,0,0,0,0,0,0,0,0,0,0,0,0,0,0,0,0,0,0,0,0,0,0,0,0,0,0,0,0,0,0,0,0,0,0,0,0,0,0,0,0,0,0,0],[],[],[],[]⟩
def PX:Modes:=⟨[0,0,1,1,1,0,0,0,1,0,0,0,0,0,0,0,0,0,0,0,0,0,0,1,1,1,0,0,0,0,0,0,0,0,0,0,0,0,0,0,0,0,0,0,0,0,0,0,0,0,0,0,0,0,0,0,0],[],[],[],[]⟩
def mwQ:Modes:=PX
structure mwI1(l:List En)(i:Nat)(L:List En):Prop where
 le:i≤(srE l).length
 sorted:Sorted L
 no:NoP L ((srE l).drop i)
 is:mrG L.length L=mrE l
 len:L.length≤l.length
structure mwI2(l:List En)(i:Nat)(y:En)(L:List En):Prop where
 lt:i< (srE l).length
 hand:AtH L y ((srE l).drop (i+1))
 is:mrG L.length L=mrE l
 len:L.length≤l.length
def PZ(F:List En→List AV)(l:List En):List Hint:=
 [.nm (F (srE l)), .inl fun y=>[.nw, .linv _ (srE l).length (IX F l y) (fun k=>k≤(srE l).length) (fun k=>k) PY PY Rk (fun _=>[]) fun k=>
  [.fork [.dy, .cell (enE (at' (srE l) (k-1))), .nw] []]],
  .linv _ (0,srE l) (IW F l) (fun p=>mwI1 l p.1 p.2) (fun p=>(srE l).length+1-p.1) Ri mwP Rj (fun _=>[]) fun p=>
  [.fork [.dy, .cell (enE (at' (srE l) p.1)), .jmp 0 _ (at' (srE l) p.1,p.2) (Og F l p.1) (fun q=>mwI2 l p.1 q.1 q.2) (fun q=>q.2.length) PX mwQ (fun _=>[.nw]),
   .mrg true Unit (fun _=>Rh F l p) (fun _=>True) mwX [] fun _=>[.fork [.nw] [.fork [.nw] []]]] []]]

def sg:List Arg→(Res→Prop)→Prop
 | [.v (.agg [.w64 v, .w64 w, .w64 m, .w64 n]), .v (.agg [.w64 c, .w64 d, .w64 p, .w64 q])],R=>mgB v w m n c d p q=true∧R (.v (.tuple [.agg [.w64 (v&&&(m^^^(v^^^c)&&&m)), .w64 (w&&&(n^^^(w^^^d)&&&n)), .w64 (m^^^(v^^^c)&&&m), .w64 (n^^^(w^^^d)&&&n)], .bool true]))
 |_,_=>False

theorem i6{h:Hp}{K K':Prop}(hi:K→K'):∀{l:List AV},gW h l K→gW h l K'
 | [],hh=>hi hh
 |x::l,hh=>by
  cases x
  case slice r i n st=>
   rw[qd] at hh⊢
   split at hh
   ·cases st with
    |false=>exact⟨hh.1,i6 hi hh.2⟩
    |true=>
     unfold kE at hh⊢
     dsimp only at hh⊢
     split at hh
     ·exact i6 hi hh
     ·exact hh.elim
   ·exact hh.elim
  case vsl r i n=>
   rw[o4] at hh⊢
   split at hh
   ·exact⟨hh.1,i6 hi hh.2⟩
   ·exact hh.elim
  all_goals
   simp only[gW] at hh⊢
   exact i6 hi hh

theorem CM:eJ Tryz.prog 112 (ey [none,none] sg):=by
 intro args h K hK
 refine Gc args h K ?_
 unfold ey at hK⊢
 split at hK
 ·refine i6 (fun hF=> ?_) hK
  unfold sg at hF
  split at hF
  ·obtain⟨h1,h2⟩:=hF
   unfold w8
   simp only[h1,selW,if_true]
   exact h2
  ·exact hF.elim
 ·exact hK.elim

noncomputable def IZ:List (FuncId×Sx.Spec):=[(39,ey [pEn] ja),(71,ey [none] mR),(70,xO),(69,Dh),(111,xP),(72,rH JE),(74,Di),(112,ey [none,none] sg)]

theorem Of(F:List En→List AV)(l:List En)(es:List AV):run IZ Tryz.prog 36 [.vsl 0 0 (l.map enE).length] [some ⟨false,44,6,true,l.map enE⟩] (PZ F l) (eM (.vrow 44 6 es))=
  (let aI:=nat_lit 44;let aB:=nat_lit 134;let aw:=(6:Nat);let av:=AV.ptr;let aq:=(0:Int);let an:=srE l;let aj:=(1000000:Nat);let ah:=inRange IntKind.i64;let ae:=AV.w64;let Y:=Blk.mk true;let X:=(1:Int);let P:=List.length an;let B:=AV.int IntKind.i64;let x:=List.length (F an);let ac:=(↑x:Int);let w:=Y (44:TypeId) aw true;let R:=w (F an);let v:=(0:Nat);let W:=AV.lit (Value.slice none v v);let N:=Y (134:TypeId) v true;let u:=(1:Nat);let ay:=v+u+u+u;let ag:=v+u+u+u+u;let aD:=av ag v v true;let af:=av (v+u+u) v v true;let S:=AV.vsl (v+u) v x;let az:=Y (nat_lit 29) u false [S];let J:=Y aB u false;let aF:=J [AV.mp (v+u+u)];let ad:=J [AV.mp ay];let t:=List.map enE;let ax:=List.length (t l);let M:=List.take (ax) (List.drop v (t l));let aE:=deE (M);let E:=Blk.mk false (44:TypeId) aw true (t l);let q:=AV.any;(v+ax≤ax∧M=t aE∧List.length aE≤aj∧(t (srE aE)=F an∧List.length (t (srE aE))=List.length (F an))∧∀(a:Nat),let aC:=AV.func (Fn.yield a) [] [];ah (ac-X)∧(St.mk [aC,aD,q,B (ac-X),q,q,q,q,q,q,q,q,q,q,q,q,q,q,q] [some E,some R,some (Y (134:Nat) v true []),some aF,some az]=IX F l a (P)∧Nat.le (P) (P))∧∀(b:Nat),let ao:=(↑b:Int);let aA:=Decidable.decide (ao-X≥aq);let am:=deE (t (mwL l b));let D:=at' an (b-u);let al:=En.mk D.1 D.2 D.3 D.4 D.5 D.6;Nat.le b (P)→(aA=true→(aq≤ao-X∧ao-X<ac)∧Blk.read Proofs.Tryz.prog R (44:Nat) (v+Int.toNat (ao-X)) v=some (AV.agg [ae D.1,ae D.2,ae D.3,ae D.4,B D.5,B D.6])∧a=a∧(t (mwL l b)=t am∧List.length am<aj∧∀(c:En),List.Mem c am→tdE c=tdE al→cpE al c≤aq)∧ah (ao-X-X)∧∃(d:Nat),St.mk [aC,aD,q,B (ao-X-X),q,q,q,q,q,q,q,q,q,q,q,q,q,q,q] [some E,some R,some (Y aB v true (t (lK al am))),some aF,some az]=IX F l a d∧Nat.le d (P)∧d<b)∧(aA=false→(St.mk [q,q,W,S,af,q,q,q,q,q,q,q,q,q,q,q,q,q,q,q,q,q,q,S,B ac,B aq,q,q,q,q,q,q,q,q,q,q,q,q,q,q,q,q,q,q,q,q,q,q,q,q,q,q,q,q,q,q,q] [some E,some R,some ad,some (N (t (mwL l b)))]=IW F l (v,srE l)∧mwI1 l v an)∧∀(e:Nat×List En),let ap:=t e.2;let ak:=fM (tdE (at' an e.1)) e.2;let V:=(↑e.1:Int);let aG:=Decidable.decide (V<ac);let K:=t e.2=t (deE ap)∧List.length (deE ap)≤aj;let I:=St.mk [q,q,W,S,af,q,q,q,av ay v v true,q,q,q,q,q,q,q,q,q,q,q,q,q,q,S,B ac,B V,q,q,q,q,q,q,q,q,q,q,q,q,q,q,q,q,q,q,q,q,q,q,q,q,q,q,q,q,q,q,q];let s:=St.mk [q,q,W,S,af,q,q,q,q,q,q,q,q,q,q,q,q,q,q,q,q,q,q,S,B ac,B (V+X),q,q,q,q,q,q,q,q,q,q,q,q,q,q,q,q,q,q,q,q,q,q,q,q,q,q,q,q,q,q,q];let ar:=s [some E,some R,some ad,some (N ap)];let o:=at' an (Prod.fst e);let L:=AV.agg [ae o.1,ae o.2,ae o.3,ae o.4,B o.5,B o.6];let G:=tpE (tdE o) (Prod.snd e);let Z:= !(G.1==o.1&&G.2==o.2&&(G.3==o.3&&G.4==o.4)&&(G.5==o.5&&G.6==o.6));let A:=tpE (En.mk (En.v o&&&En.m o) (En.w o&&&En.n o) (En.m o) (En.n o) (En.len o) (En.act o)) (deE (t (Prod.snd e)));let n:=St.mk [q,q,W,S,af,q,q,q,av ay v v true,aD,AV.bool (Option.isSome (fM (En.mk (o.1&&&o.3) (o.2&&&o.4) o.3 o.4 o.5 o.6) (deE ap))),q,q,q,q,q,q,q,q,q,q,q,q,S,B ac,B V,q,q,q,q,q,q,q,q,q,q,q,q,q,q,q,q,q,q,q,q,q,q,q,q,q,q,q,q,q,q,q] [some E,some R,some (J [AV.mp (v+u+u+u+u+u)]),some (Y aI aw true [L]),some (Y aI aw true [AV.agg [ae A.1,ae A.2,ae A.3,ae A.4,B A.5,B A.6]]),some (N ap)]=St.mk [q,q,W,AV.vsl u v x,av (2:Nat) v v true,q,q,q,av (3:Nat) v v true,av (4:Nat) v v true,AV.bool (Option.isSome ak),q,q,q,q,q,q,q,q,q,q,q,q,AV.vsl u v x,B ac,B V,q,q,q,q,q,q,q,q,q,q,q,q,q,q,q,q,q,q,q,q,q,q,q,q,q,q,q,q,q,q,q] [some E,some R,some (Y (134:TypeId) u false [AV.mp (5:Nat)]),some (w [L]),some (w [AV.agg [ae G.1,ae G.2,ae G.3,ae G.4,B G.5,B G.6]]),some (N ap)];mwI1 l e.1 e.2→(aG=true→(aq≤V∧V<ac)∧Blk.read Proofs.Tryz.prog R (44:Nat) (v+Int.toNat V) v=some (L)∧(((K∧(∃(_:Unit),n∧True)∧(∃(_:Unit),n∧True)∧∃(_:Unit),n∧True)∧K∧(∃(_:Unit),n∧True)∧∃(_:Unit),n∧True)∧K∧(∃(_:Unit),n∧True)∧∃(_:Unit),n∧True)∧∀(_:Unit),True→((!Option.isSome ak)=true→ah (V+X)∧∃(f:Nat×List En),ar=IW F l f∧mwI1 l f.1 f.2∧P+u-f.1<P+u-e.1)∧((!Option.isSome ak)=false→(Z=true→ah (V+X)∧∃(g:Nat×List En),ar=IW F l g∧mwI1 l g.1 g.2∧P+u-g.1<P+u-e.1)∧(Z=false→(I [some E,some R,some (J [AV.mp ag]),some (w [L]),some (N ap)]=Og F l e.1 (at' an e.1,e.2)∧mwI2 l e.1 (at' an e.1) e.2)∧∀(h:En×List En),let ai:=deE (t h.2);let U:=t h.2=t ai;let Q:=List.length ai≤aj;let r:=Prod.fst h;let T:=En.mk r.1 r.2 r.3 r.4 r.5 r.6;let C:=deE (t (drL (tdE T) ai));mwI2 l e.1 h.1 h.2→U∧Q∧(∀(i:En),let au:=tdE (En.mk i.1 i.2 i.3 i.4 i.5 i.6);let ab:=r.4^^^(r.2^^^i.2)&&&r.4;let aa:=r.3^^^(r.1^^^i.1)&&&r.3;let O:=t (drL au C);let aH:=deE (O);let H:=En.mk (r.1&&&aa) (r.2&&&ab) aa ab r.5 r.6;paE T ai=some i→(U∧Q∧fM (tdE T) ai≠none)∧(t (drL (tdE T) ai)=t C∧List.length C≤aj∧fM au C≠none)∧mgB r.1 r.2 r.3 r.4 i.1 i.2 i.3 i.4=true∧(O=t aH∧List.length aH<aj∧∀(j:En),List.Mem j aH→tdE j=tdE H→cpE H j≤aq)∧∃(k:En×List En),I [some E,some R,some (J [AV.mp ag]),some (Y aI aw true [AV.agg [ae (r.1&&&aa),ae (r.2&&&ab),ae aa,ae ab,B r.5,B r.6]]),some (Y aB v true (t (lK H aH)))]=Og F l e.1 k∧mwI2 l e.1 k.1 k.2∧List.length k.2<List.length h.2)∧(paE T ai=none→ah (V+X)∧∃(m:Nat×List En),s [some E,some R,some ad,some (N (t h.2))]=IW F l m∧mwI1 l m.1 m.2∧P+u-m.1<P+u-e.1))))∧(aG=false→K∧List.length ap=List.length es∧some (w ap)=some (w es))))):=by kernel_rfl

theorem Lw(hS:eJ Tryz.prog 39 (ey [pEn] ja)):∀e∈IZ,eJ Tryz.prog e.1 e.2:=by
 have hT:=vi rfl
 intro e he
 simp only[IZ,List.mem_cons,List.not_mem_nil,or_false] at he
 rcases he with rfl|rfl|rfl|rfl|rfl|rfl|rfl|rfl
 ·exact hS
 ·exact oK
 ·exact HR
 ·exact NR hT
 ·exact L8 hT
 ·exact JD
 ·exact O2 hS
 ·exact CM

theorem yY(m:List En){i:Nat}(h:i<m.length):m.drop i=at' m i::m.drop (i+1):=by
 rw[List.drop_eq_getElem_cons h]
 unfold at'
 rw[List.getD_eq_getElem?_getD,List.getElem?_eq_getElem h]
 rfl

theorem Bd(hS:eJ Tryz.prog 39 (ey [pEn] ja)):eJ Tryz.prog 36 (ey [pEn] nU):=by
 refine eK (eS (l:=IZ) (Lw hS) mixed noNG) fun l R hF=> ?_
 unfold nU at hF
 split at hF
 ·rename_i r_l
  obtain⟨hr_l,hl,hF⟩:=hF
  generalize deE r_l=l at hr_l hl hF
  subst hr_l
  refine⟨_,hF,trivial,(PZ (List.map enE) l), ?_⟩
  show run IZ Tryz.prog _ [.vsl 0 0 (l.map enE).length] [some ⟨false,44,6,true,(l.map enE)⟩] _ _
  clear hF
  have hn:(srE l).length=l.length:=fj l
  have hss:=fW l
  have rd:∀k:Int,0≤k→k< ((srE l).length:Int)→∀j,j=k.toNat→Blk.read Tryz.prog ⟨true,44,6,true,(srE l).map enE⟩ 44 (0+k.toNat) 0=some (enE (at' (srE l) j)):=fun k h0 h1 j e=>by
   subst e
   exact eL h0 (by rw[List.length_map];exact h1) (fK _)
  rw[Of];(conv=>zeta)
  simp only[eT,gg]
  refine⟨by omega,trivial,hl,⟨trivial,trivial⟩,fun y=>⟨inR (by rw[List.length_map];omega) (by rw[List.length_map];omega),⟨?_,Nat.le_refl _⟩,fun k hk=>⟨fun hk1=>⟨?_, ?_,trivial,⟨trivial, ?_, ?_⟩, ?_, ?_⟩,fun hk0=>⟨⟨?_, ?_⟩,fun p hp=>⟨fun hlt=> ?_,fun hge=> ?_⟩⟩⟩⟩⟩
  ·unfold IX Oh
   rw[show mwL l (srE l).length=[] from List.drop_length,List.length_map]
   rfl
  all_goals try replace hk:k≤(srE l).length:=hk
  all_goals try replace hk1:=of_decide_eq_true hk1
  all_goals try replace hk0:=of_decide_eq_false hk0
  ·rw[List.length_map];omega
  ·exact rd _ (by omega) (by omega) (k-1) (by omega)
  ·unfold mwL;rw[List.length_drop];omega
  ·intro z hz _
   have hd:=yY (srE l) (i:=k-1) (by omega)
   rw[show k-1+1=k by omega] at hd
   have h1:Sorted ((srE l).drop (k-1)):=hss.sublist (List.drop_sublist _ _)
   rw[hd] at h1
   exact (List.pairwise_cons.1 h1).1 z hz
  ·exact inR (by omega) (by omega)
  ·have hd:=yY (srE l) (i:=k-1) (by omega)
   rw[show k-1+1=k by omega] at hd
   have h1:Sorted ((srE l).drop (k-1)):=hss.sublist (List.drop_sublist _ _)
   rw[hd] at h1
   refine⟨k-1, ?_,(by omega:k-1≤(srE l).length),by omega⟩
   unfold IX Oh
   rw[show mwL l (k-1)=lK (at' (srE l) (k-1)) (mwL l k) from by
    unfold mwL lK
    rw[hd]
    exact kN h1 (List.Perm.refl _),show ((k-1:Nat):Int)-1=(k:Int)-1-1 by omega]
  ·have:k=0:=by omega
   subst this
   rfl
  ·exact⟨Nat.zero_le _,hss,NoP.start _,(GQ l).symm,by omega⟩
  ·replace hlt:=of_decide_eq_true hlt
   rw[List.length_map] at hlt
   have hi:p.1< (srE l).length:=by omega
   have hd:=yY (srE l) hi
   have hno:=hp.no
   rw[hd] at hno
   have hR:Sorted (at' (srE l) p.1::(srE l).drop (p.1+1)):=hd▸hss.sublist (List.drop_sublist _ _)
   have hpl:=hp.len
   have skip:fM (tdE (at' (srE l) p.1)) p.2≠some (at' (srE l) p.1)→mwI1 l (p.1+1) p.2:=fun ht=>⟨hi,hp.sorted,NoP.skip hp.sorted hR hno ht,hp.is,hp.len⟩
   refine⟨⟨by omega,by rw[List.length_map];omega⟩,rd _ (by omega) (by omega) p.1 (by omega), ?_,fun _ _=>⟨fun h1=>⟨inR (by omega) (by omega),(p.1+1,p.2),rfl,skip ?_,by dsimp only;omega⟩,fun h1=>⟨fun h2=>⟨inR (by omega) (by omega),(p.1+1,p.2),rfl,skip ?_,by dsimp only;omega⟩,fun h2=>⟨⟨rfl, ?_⟩,fun q hq=>⟨trivial, ?_,fun z hz=> ?_,fun hz=> ?_⟩⟩⟩⟩⟩
   ·repeat' first
     |exact⟨trivial,by omega⟩
     |exact⟨(),rfl,trivial⟩
     |constructor
   ·have e:=qB (o:=fM (tdE (at' (srE l) p.1)) p.2) (by simpa using h1)
    rw[e];simp
   ·rw[JZ] at h2
    intro h3
    have h4:=xd (p:=tdE (at' (srE l) p.1)) (L:=p.2) (by rw[h3];rfl)
    rw[h3] at h4
    simp[←Option.some.inj h4] at h2
   ·rw[JZ] at h2
    have h3:tpE (tdE (at' (srE l) p.1)) p.2=at' (srE l) p.1:=by simpa using h2
    have h4:=xd (p:=tdE (at' (srE l) p.1)) (L:=p.2) (by simpa using h1)
    rw[h3] at h4
    exact⟨hi,NoP.hand hp.sorted hR hno h4,hp.is,hp.len⟩
   ·have:=hq.len;omega
   ·replace hz:paE q.1 q.2=some z:=hz
    have hql:=hq.len
    obtain⟨a1,a2,a3,a4⟩:=hq.hand.step hz
    have n0:fM (tdE q.1) q.2≠none:=by rw[hq.hand.top];simp
    have n1:fM (tdE z) (drL (tdE q.1) q.2)≠none:=by rw[a1];simp
    have l0:=uo (p:=tdE q.1) (L:=q.2) (fun e=>n0 (iC.2 e))
    have l1:=uo (p:=tdE z) (L:=drL (tdE q.1) q.2) (fun e=>n1 (iC.2 e))
    have l2:=(nO (jnE q.1 z) (drL (tdE z) (drL (tdE q.1) q.2))).length_eq
    rw[List.length_cons] at l2
    refine⟨⟨trivial,by omega,n0⟩,⟨trivial, ?_,n1⟩,(kj.1 (pr hz).2).2.2,⟨trivial, ?_,fun w hw ht=>a2 w hw ht⟩,(jnE q.1 z,lK (jnE q.1 z) (drL (tdE z) (drL (tdE q.1) q.2))),rfl,⟨hq.lt,a4, ?_, ?_⟩, ?_⟩
    ·show (drL (tdE q.1) q.2).length≤1000000
     omega
    ·show (drL (tdE z) (drL (tdE q.1) q.2)).length<1000000
     omega
    ·exact (I2 a3).symm.trans hq.is
    ·dsimp only;omega
    ·dsimp only;omega
   ·replace hz:paE q.1 q.2=none:=hz
    have:=hq.lt
    exact⟨inR (by omega) (by omega),(p.1+1,q.2),rfl,⟨hi,hq.hand.sorted,hq.hand.done hz,hq.is,hq.len⟩,by dsimp only;omega⟩
  ·replace hge:=of_decide_eq_false hge
   rw[List.length_map] at hge
   have e:p.1=(srE l).length:=by have:=hp.le;omega
   have h1:=hp.no
   rw[e,List.drop_length] at h1
   have h2:=hp.is
   rw[I3 h1.none] at h2
   refine⟨⟨trivial,by have:=hp.len;omega⟩, ?_, ?_⟩
   ·rw[h2]
   ·rw[h2]
 ·exact hF.elim

end Go.Proofs.YtcabofadpheomaaGreat.L1
end

