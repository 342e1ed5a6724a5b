/-
 Objects: piles of entries: a map from what an entry tells to the entries that tell it, those that are above last, as a slice of its own. Its state: all entries, sorted.
-/
import Derived.Test.YtcabofadpheomaaGreatSxA
import Derived.Test.YtcabofadpheomaaGreatMa
import Derived.Laws.AppendOwn
namespace Go.Sx

def oz:Bool:=true

def Lc(_ty:TypeId)(_es _m:List AV):Prop:=False

theorem sK{es m:List AV}:¬Lc kX es m:=fun h=>h

theorem Ij{es m:List AV}:¬Lc gU es m:=fun h=>h

def oh(_ty:TypeId)(_es:List AV)(_h:Hp):Prop:=False

theorem qp{es:List AV}{h:Hp}:¬oh kX es h:=fun h=>h

theorem Gy{es:List AV}{h:Hp}:¬oh gU es h:=fun h=>h

theorem xG{ty:TypeId}{es:List AV}{h:Hp}(hr:oh ty es h):∀(r:Nat) (k:Blk),h[r]?=some (some k)→k.wr=true:=hr.elim

theorem Gx{ty:TypeId}{es:List AV}{h:Hp}(hr:oh ty es h):∃k:Blk,h[0]?=some (some k):=hr.elim

def encV(x:M.En):List Value:=[.int .u64 (x.v.toNat:Int), .int .u64 (x.w.toNat:Int), .int .u64 (x.m.toNat:Int), .int .u64 (x.n.toNat:Int), .int .i64 x.len, .int .i64 x.act]
def eV(x:M.En):Value:= .agg (encV x).toArray

def qK:TypeId:=44

def iP(w:World)(v:Value)(l:List M.En):Prop:=w.ownsRow 0 qK 6 v l.length (l.flatMap encV)

theorem fF{w w':World}{base:Nat}{e:TypeId}{size:Nat}{v:Value}{n:Nat}{xs:List Value}(h:w.ownsRow base e size v n xs)(hb:∀g,v.ownBlock=some g→w'.heap[g]?=w.heap[g]?):w'.ownsRow base e size v n xs:=by
 refine⟨h.1, ?_⟩
 rcases h.2 with hn| ⟨g,cap,cur,rfl,h1,hg,rest⟩
 ·exact .inl hn
 ·exact .inr ⟨g,cap,cur,rfl,h1,(hb g rfl).trans hg,rest⟩

structure MapE(w:World)(own:List Nat)(L:List M.En)(es:Array MapEntry)(clock:Nat):Prop where
 born:(es.toList.map (·.born)).Nodup
 old:∀x∈es.toList,x.born<clock
 is:∀x∈es.toList,∃p,x.key=eV p∧iP w x.val (M.plE p L)∧∀g,x.val.ownBlock=some g→g∈own
 all:∀y∈L,∃x∈es.toList,x.key=eV (M.tdE y)
 apart:es.toList.Pairwise fun x y=>x.key≠y.key∧∀g,x.val.ownBlock=some g→y.val.ownBlock≠some g

structure MapI(w:World)(b:Nat)(own:List Nat)(L:List M.En):Prop where
 mem:b∈own
 map:∃es clock,w.heap[b]?=some (.map es clock)∧MapE w own L es clock∧∀g∈own,g=b∨∃x∈es.toList,x.val.ownBlock=some g

theorem MapE.frame{w w':World}{own:List Nat}{L:List M.En}{es:Array MapEntry}{clock:Nat}(h:MapE w own L es clock)(hb:∀g,(∃x∈es.toList,x.val.ownBlock=some g)→w'.heap[g]?=w.heap[g]?):MapE w' own L es clock:=
 ⟨h.born,h.old,fun x hx=>let ⟨p,h1,h2,h3⟩:=h.is x hx;⟨p,h1,fF h2 fun g hg=>hb g ⟨x,hx,hg⟩,h3⟩,h.all,h.apart⟩

structure MapF(es:Array MapEntry)(clock:Nat)(L:List (M.En×Int)):Prop where
 born:(es.toList.map (·.born)).Nodup
 old:∀x∈es.toList,x.born<clock
 is:∀x∈es.toList,∃q n,x.key=eV q∧x.val= .int .i64 n∧M.fiG q L=some n
 all:∀q,M.fiG q L≠none→∃x∈es.toList,x.key=eV q
 apart:es.toList.Pairwise fun x y=>x.key≠y.key

structure MapK(es:Array MapEntry)(clock:Nat)(L:List Int):Prop where
 born:(es.toList.map (·.born)).Nodup
 old:∀x∈es.toList,x.born<clock
 is:∀x∈es.toList,∃q,x.key= .int .i64 q∧q∈L
 all:∀q∈L,∃x∈es.toList,x.key= .int .i64 q
 apart:es.toList.Pairwise fun x y=>x.key≠y.key

def yP(ty:TypeId)(es:List AV)(b:Nat)(own:List Nat)(w:World):Prop:=
 (ty=piT∧∃L,es=L.map enA∧M.Sorted L∧MapI w b own L)∨
 (ty=fiT∧own=[b]∧∃L l c,es=List.map M.fiA L∧w.heap[b]?=some (.map l c)∧MapF l c L)∨
 (ty=noT∧own=[b]∧∃L l c,es=List.map noA L∧w.heap[b]?=some (.map l c)∧MapK l c L)

theorem wm{ty:TypeId}{es:List AV}{b:Nat}{own:List Nat}{w w':World}(h:yP ty es b own w)(_:w.heap.size≤w'.heap.size)(hb:∀x∈own,w'.heap[x]?=w.heap[x]?):yP ty es b own w':=by
 rcases h with⟨h1,L,h2,h3,h4,l,c,h5,h6,h7⟩| ⟨h1,rfl,L,l,c,h2,h3,h4⟩| ⟨h1,rfl,L,l,c,h2,h3,h4⟩
 ·refine .inl ⟨h1,L,h2,h3,h4,l,c,(hb b h4).trans h5,h6.frame fun g hg=>hb g ?_,h7⟩
  obtain⟨x,hx,hg⟩:=hg
  obtain⟨p,_,_,h8⟩:=h6.is x hx
  exact h8 g hg
 ·exact .inr (.inl ⟨h1,rfl,L,l,c,h2,(hb b (List.mem_singleton.2 rfl)).trans h3,h4⟩)
 ·exact .inr (.inr ⟨h1,rfl,L,l,c,h2,(hb b (List.mem_singleton.2 rfl)).trans h3,h4⟩)

theorem JV{ty:TypeId}{es:List AV}{b:Nat}{own:List Nat}{w:World}(h:yP ty es b own w):∀x∈own,(∃cur t fr,w.heap[x]?=some (Obj.cells cur t fr))∨(oz=true∧∃l c,w.heap[x]?=some (Obj.map l c)):=by
 rcases h with⟨h1,L,h2,h3,h4,l,c,h5,h6,h7⟩| ⟨h1,rfl,L,l,c,h2,h3,h4⟩| ⟨h1,rfl,L,l,c,h2,h3,h4⟩
 ·intro g hg
  rcases h7 g hg with rfl| ⟨x,hx,hxg⟩
  ·exact .inr ⟨rfl,l,c,h5⟩
  ·obtain⟨p,_,h8,_⟩:=h6.is x hx
   rcases h8.2 with⟨e,_⟩| ⟨g',cap,cur,e,_,hc,_⟩
   ·rw[e] at hxg;cases hxg
   ·rw[e] at hxg
    cases hxg
    exact .inl ⟨cur,_,_,hc⟩
 all_goals
  intro g hg
  rw[List.mem_singleton] at hg
  subst hg
  exact .inr ⟨rfl,l,c,h3⟩

theorem LX{es:List AV}{b:Nat}{own:List Nat}{w:World}:¬yP kX es b own w:=fun h=>h.elim (fun h=>absurd h.1 (by decide)) fun h=>h.elim (fun h=>absurd h.1 (by decide)) fun h=>absurd h.1 (by decide)

theorem LY{es:List AV}{b:Nat}{own:List Nat}{w:World}:¬yP gU es b own w:=fun h=>h.elim (fun h=>absurd h.1 (by decide)) fun h=>h.elim (fun h=>absurd h.1 (by decide)) fun h=>absurd h.1 (by decide)

theorem JU{t:TypeId}(h:Fe t=true)(w:World):yP t [] w.heap.size [w.heap.size] (w.alloc (.map #[] 0)):=by
 have hh:(w.alloc (.map #[] 0)).heap[w.heap.size]?=some (.map #[] 0):=by
  show (w.heap.push _)[w.heap.size]?=_
  simp
 unfold Fe at h
 rw[Bool.or_eq_true,Bool.or_eq_true] at h
 rcases h with h|h|h
 ·exact .inl ⟨of_decide_eq_true h,[],rfl,List.Pairwise.nil,List.mem_singleton.2 rfl, #[],0,hh,⟨by simp,by simp,by simp,by simp,by simp⟩,fun g hg=> .inl (List.mem_singleton.1 hg)⟩
 ·exact .inr (.inl ⟨of_decide_eq_true h,rfl,[], #[],0,rfl,hh,⟨by simp,by simp,by simp,by simp[M.fiG],by simp⟩⟩)
 ·exact .inr (.inr ⟨of_decide_eq_true h,rfl,[], #[],0,rfl,hh,⟨by simp,by simp,by simp,by simp,by simp⟩⟩)

theorem LW{es:List AV}{b:Nat}{own:List Nat}{w:World}(h:yP piT es b own w):∃L,es=L.map enA∧M.Sorted L∧MapI w b own L:=h.elim And.right fun h=>h.elim (fun h=>absurd h.1 (by decide)) fun h=>absurd h.1 (by decide)

theorem E1{es:List AV}{b:Nat}{own:List Nat}{w:World}(h:∃L,es=L.map enA∧M.Sorted L∧MapI w b own L):yP piT es b own w:= .inl ⟨rfl,h⟩

end Go.Sx
