/-
 Texts in one: SxV SxX.
-/
import Derived.Test.YtcabofadpheomaaGreatSxF
import Derived.RangeFuncNested
import Derived.Test.YtcabofadpheomaaGreatSxY
import Derived.Test.YtcabofadpheomaaGreatSxI

section
namespace Go.Sx
open Go.RowKit

def uV(w w':World):Prop:=w.heap.size≤w'.heap.size∧(∀(b:Nat) cur ty fr,w.heap[b]?=some (Obj.cells cur ty fr)→w'.heap[b]?=some (Obj.cells cur ty fr))∧(oz=true→∀(b:Nat) l c,w.heap[b]?=some (Obj.map l c)→w'.heap[b]?=some (Obj.map l c))

theorem BlkR.keptC{ρ:List Loc}{B:Gd}{w w':World}{l:Loc}{k:Blk}(h:BlkR ρ B w l k)(hk:uV w w'):BlkR ρ B w' l k:=
 ⟨h.esz,let ⟨cur,ty,fr,h1,h2,h3⟩:=h.row;⟨cur,ty,fr,hk.2.1 _ _ _ _ h1,h2,h3⟩⟩

theorem ObjR.keptC{ty:TypeId}{es:List AV}{b:Nat}{own:List Nat}{w w':World}(h:ObjR ty es b own w)(hk:uV w w'):ObjR ty es b own w':=by
 induction h with
 |mk h ρ o hr hl hrow hobj hat _ hsep hown h0 ih=>
  exact .mk h ρ o hr hl (fun r k l a c=>⟨(hrow r k l a c).1,(hrow r k l a c).2.keptC hk⟩) hobj hat (fun r k l a c=>ih r k l a c hk) hsep (fun r b' hb=>⟨(hown r b' hb).1,Nat.lt_of_lt_of_le (hown r b' hb).2 hk.1⟩) h0
 |raw m hm hR=>exact .raw m hm ⟨hR.nd,fun x hx=>let ⟨a,cur,c,d⟩:=hR.is x hx;⟨a,cur,hk.2.1 _ _ _ _ c,d⟩,hR.hd⟩
 |ext h=>exact .ext (wm h hk.1 fun x hx=>(JV h x hx).elim (fun⟨cur,t,fr,e⟩=>(hk.2.1 _ _ _ _ e).trans e.symm) fun⟨hst,l,c,e⟩=>(hk.2.2 hst _ _ _ e).trans e.symm)
 |frz h1 h2=>
  have hb:=fun x hx=>let ⟨cur,ty,fr,e⟩:=h2 x hx;(hk.2.1 _ _ _ _ e).trans e.symm
  exact .frz (fun e he=>(h1 e he).frame hb) fun x hx=>let ⟨cur,ty,fr,e⟩:=h2 x hx;⟨cur,ty,fr,(hb x hx).trans e⟩

theorem HpR.keptC{B:Gd}{ρ:List Loc}{h:Hp}{w w':World}(hH:HpR B ρ h w)(hk:uV w w'):HpR B ρ h w':=
 ⟨hH.len,hH.base.trans (iw hk.1),fun r k l a c=>(hH.blk r k l a c).keptC hk,hH.sep,fun p hp=>⟨(hH.glob p hp).1,let ⟨ty,fr,e⟩:=(hH.glob p hp).2;⟨ty,fr,hk.2.1 _ _ _ _ e⟩⟩,
  let ⟨o,hO⟩:=hH.objs
  ⟨o,fun r k l a c=>by
   obtain⟨h1,h2,h3,h4⟩:=hO.is r k l a c
   exact⟨h1.keptC hk,fun b hb=>Nat.lt_of_lt_of_le (h2 b hb) hk.1,h3,h4⟩,hO.row,hO.obj,hO.here⟩⟩

theorem HpR.guard{B B':Gd}{ρ:List Loc}{h:Hp}{w:World}(hH:HpR B' ρ h w)(le:Gd.le B B')(hg:gl B w):HpR B ρ h w:=
 ⟨hH.len,le.trans hH.base,fun r k l a c=>by
  obtain⟨e,cur,ty,fr,h1,h2,h3⟩:=hH.blk r k l a c
  exact⟨e,cur,ty,fr,h1,h2,fun hw=>let ⟨a1,a2,a3,a4,a5,a6,a7⟩:=h3 hw;⟨a1,a2,a3,a4,a5,fun hB=>a6 (le _ hB),a7⟩⟩,hH.sep,hg,
  let ⟨o,hO⟩:=hH.objs
  ⟨o,fun r k l a c=>by
   obtain⟨h1,h2,h3,h4⟩:=hO.is r k l a c
   exact⟨h1,h2,fun hw b hb hB=>h3 hw b hb (le _ hB),h4⟩,hO.row,hO.obj,hO.here⟩⟩

theorem kn(hst:oz=false){W W':World}{row:Option Nat}(hg:W.grownBy W' row)(hr:∀r,row=some r→∃o:Obj,W.heap[r]?=some o∧o.isCells=false):uV W W':=
 ⟨hg.size,fun b cur ty fr h=>(hg.block b (Array.getElem?_eq_some_iff.1 h).1 (fun e=>by
  obtain⟨o,h1,h2⟩:=hr b e.symm
  rw[h] at h1;cases h1;cases h2)).trans h,fun e=>by rw[hst] at e;cases e⟩

theorem AR{W W':World}{row:Option Nat}(hg:W.grownBy W' row)(hr:∀r,row=some r→∃o:Obj,W.heap[r]?=some o∧o.isCells=false∧∀l c,o≠Obj.map l c):uV W W':=
 ⟨hg.size,fun b cur ty fr h=>(hg.block b (Array.getElem?_eq_some_iff.1 h).1 (fun e=>by
  obtain⟨o,h1,h2,_⟩:=hr b e.symm
  rw[h] at h1;cases h1;cases h2)).trans h,fun _ b l c h=>(hg.block b (Array.getElem?_eq_some_iff.1 h).1 (fun e=>by
  obtain⟨o,h1,_,h2⟩:=hr b e.symm
  rw[h] at h1;exact h2 _ _ (Option.some.inj h1).symm)).trans h⟩

end Go.Sx
end

section
namespace Go.Sx
open Go.RowKit

theorem JL(rd:List Nat)(h:Hp):(mq rd h).length=h.length:=by unfold mq;rw[List.length_mapIdx]
theorem H4(rd:List Nat)(h:Hp):(xt rd h).length=h.length:=by unfold xt;rw[List.length_mapIdx]

theorem BC{rd:List Nat}{h:Hp}{r:Nat}{k:Blk}(hk:(mq rd h)[r]?=some (some k)):∃k0,h[r]?=some (some k0)∧k.ty=k0.ty∧k.esz=k0.esz∧k.flat=k0.flat∧k.elems=k0.elems∧(k.wr=true→k0.wr=true∧¬rd.contains r=true∧k0.esz≠0):=by
 unfold mq at hk
 rw[List.getElem?_mapIdx] at hk
 cases hx:h[r]? with
 |none=>rw[hx] at hk;cases hk
 |some x=>
  rw[hx,Option.map_some] at hk
  cases x with
  |none=>cases hk
  |some k0=>
   have hk:=Option.some.inj hk
   dsimp only at hk
   split at hk
   ·cases hk;exact⟨k0,rfl,rfl,rfl,rfl,rfl,fun h=>by cases h⟩
   ·cases hk;exact⟨k0,rfl,rfl,rfl,rfl,rfl,fun h=>by cases h⟩
   ·rename_i n h1 h2
    have hk:=(Option.some.inj hk).symm
    subst hk
    exact⟨_,rfl,rfl,rfl,rfl,rfl,fun h=>⟨h,by rw[h1];simp,by rw[h2];exact Nat.succ_ne_zero _⟩⟩

theorem pO{rd:List Nat}{h:Hp}{r:Nat}{k:Blk}(hk:(mq rd h).row r=some k):∃k0,h.row r=some k0∧k.ty=k0.ty∧k.esz=k0.esz∧k.flat=k0.flat∧k.elems=k0.elems∧(k.wr=true→k0.wr=true∧¬rd.contains r=true):=by
 obtain⟨h1,h2⟩:=eN.1 hk
 obtain⟨k0,a,b,c,d,e,f⟩:=BC h1
 exact⟨k0,eN.2 ⟨a,c▸h2⟩,b,c,d,e,fun hw=>⟨(f hw).1,(f hw).2.1⟩⟩

theorem tU{rd:List Nat}{h:Hp}{r:Nat}{k:Blk}(hk:(mq rd h).obj r=some k):∃k0,h.obj r=some k0∧k.ty=k0.ty∧k.elems=k0.elems∧k.wr=false:=by
 obtain⟨h1,h2⟩:=eR.1 hk
 obtain⟨k0,a,b,c,d,e,f⟩:=BC h1
 refine⟨k0,eR.2 ⟨a,c▸h2⟩,b,e, ?_⟩
 cases hw:k.wr with
 |false=>rfl
 |true=>exact absurd (c▸h2) (f hw).2.2

theorem zW{rd:List Nat}{h:Hp}{r:Nat}{k:Blk}(hk:(xt rd h)[r]?=some (some k)):h[r]?=some (some k)∧rd.contains r=true:=by
 unfold xt at hk
 rw[List.getElem?_mapIdx] at hk
 cases hx:h[r]? with
 |none=>rw[hx] at hk;cases hk
 |some x=>
  rw[hx,Option.map_some] at hk
  have hk:=Option.some.inj hk
  split at hk
  ·rename_i hc;exact⟨by rw[hk],hc⟩
  ·cases hk

def Mn(o:Nat→List Nat)(ρ:List Loc)(h:Hp)(rd:List Nat):Gd:=fun b=>∃r,rd.contains r=true∧o6 o h ρ r b

def orG(B G:Gd):Gd:=fun b=>B b∨G b

theorem jE(B G:Gd):Gd.le B (orG B G):=fun _ h=> .inl h

theorem HpR.frz{B:Gd}{ρ:List Loc}{h:Hp}{w:World}(hH:HpR B ρ h w){o:Nat→List Nat}(hO:ObjsO o B ρ h w)(rd:List Nat):HpR (orG B (Mn o ρ h rd)) ρ (mq rd h) w:=by
 have hlt:Gd.le (orG B (Mn o ρ h rd)) (bl w.heap.size):=by
  rintro b (hb| ⟨r,_,l,hl,(⟨k,hk,rfl⟩| ⟨k,hk,hm⟩)⟩)
  ·exact hH.base b hb
  ·exact (hH.blk r k l hk hl).lt
  ·exact hO.lt hk hl b hm
 refine⟨by rw[JL];exact hH.len,hlt,fun r k l hk hl=> ?_,fun r r' k k' l l' hk hk' hw hne hl hl'=> ?_,hH.glob.mono (jE _ _),_,hO.via id (fun _ _ _ _ _ _ h=>h) (fun r k l hk hl=> ?_) (fun r k l hk hl=> ?_) fun r k hk=> ?_⟩
 ·obtain⟨k0,a,b,c,d,e,f⟩:=pO hk
  obtain⟨cur,ty,fr,g1,g2,g3⟩:=(hH.blk r k0 l a hl).rowIs
  refine .ofRow ((hH.blk r k0 l a hl).esz.trans c.symm) g1 (by rw[d,c,e];exact g2) fun hw=> ?_
  obtain⟨w0,w1⟩:=f hw
  obtain⟨q1,q2,q3,q4,q5,q6,q7⟩:=g3 w0
  refine⟨q1.trans b.symm,q2,q3,by rw[c];exact q4,q5, ?_,by rw[e];exact q7⟩
  rintro (hB| ⟨r',hr',l',hl',(⟨k',hk',e2⟩| ⟨k',hk',hm⟩)⟩)
  ·exact q6 hB
  ·exact hH.sep r r' k0 k' l l' a hk' w0 (fun e3=>w1 (e3▸hr')) hl hl' e2
  ·exact hO.row r' r k' k0 l' l hk' a hl' hl (.inr w0) hm
 ·obtain⟨k0,a,_,_,_,_,f⟩:=pO hk
  obtain⟨k1,a',_⟩:=pO hk'
  exact hH.sep r r' k0 k1 l l' a a' (f hw).1 hne hl hl'
 ·obtain⟨k0,a,b,c,d⟩:=tU hk
  exact⟨hl,k0,a,b.symm,c.symm,fun hw=>by rw[d] at hw;cases hw⟩
 ·obtain⟨k0,a,_,_,_,_,f⟩:=pO hk
  exact⟨hl,k0,a,fun hw=>(f hw).1⟩
 ·obtain⟨k0,a,_⟩:=tU hk
  exact hO.here r k0 a

theorem kO{rd:List Nat}{h:Hp}{r:Nat}{k:Blk}(hk:(xt rd h).row r=some k):h.row r=some k∧rd.contains r=true:=by
 obtain⟨h1,h2⟩:=eN.1 hk
 obtain⟨a,b⟩:=zW h1
 exact⟨eN.2 ⟨a,h2⟩,b⟩

theorem zV{rd:List Nat}{h:Hp}{r:Nat}{k:Blk}(hk:(xt rd h).obj r=some k):h.obj r=some k∧rd.contains r=true:=by
 obtain⟨h1,h2⟩:=eR.1 hk
 obtain⟨a,b⟩:=zW h1
 exact⟨eR.2 ⟨a,h2⟩,b⟩

theorem HpR.sel{B:Gd}{ρ:List Loc}{h:Hp}{w:World}(hH:HpR B ρ h w){o:Nat→List Nat}(hO:ObjsO o B ρ h w)(rd:List Nat):HpK (Mn o ρ h rd) ρ (xt rd h) w:=by
 have hO2:ObjsO o B ρ (xt rd h) w:=hO.same (fun r k hk=>(zV hk).1) fun r k hk=>⟨k,(kO hk).1,id⟩
 refine⟨⟨B,o,⟨by rw[H4];exact hH.len,hH.base,fun r k l hk hl=>hH.blk r k l (kO hk).1 hl,fun r r' k k' l l' hk hk'=>hH.sep r r' k k' l l' (kO hk).1 (kO hk').1,hH.glob,o,hO2⟩,hO2,fun r k l hk hl b hb=> ?_⟩,
  fun r k l hk hl=>⟨r,(kO hk).2,l,hl, .inl ⟨k,(kO hk).1,rfl⟩⟩, ?_⟩
 ·obtain⟨h1,h2⟩:=zV hk
  exact⟨r,h2,l,hl, .inr ⟨k,h1,hb⟩⟩
 ·rintro b ⟨r,_,l,hl,(⟨k,hk,rfl⟩| ⟨k,hk,hm⟩)⟩
  ·exact (hH.blk r k l hk hl).lt
  ·exact hO.lt hk hl b hm

theorem HpR.reRow{B:Gd}{ρ:List Loc}{h:Hp}{w:World}(hH:HpR B ρ h w){r:Nat}{k k':Blk}(hk:h.row r=some k)(hw:k'.wr=k.wr)(hz:k'.esz≠0)(hb:∀l,At ρ r l→BlkR ρ B w l k'):HpR B ρ (h.set r (some k')) w:=by
 have hrow:∀{r' k1},Hp.row (h.set r (some k')) r'=some k1→(r'=r∧k1=k')∨(r'≠r∧h.row r'=some k1):=by
  intro r' k1 hk1
  rcases iG hk1 with⟨e,g⟩|h
  ·exact .inl ⟨e,(Option.some.inj g).symm⟩
  ·exact .inr h
 obtain⟨o,hO⟩:=hH.objs
 refine⟨by simp[hH.len],hH.base,fun r1 k1 l1 h1 hl1=> ?_,fun r1 r2 k1 k2 l1 l2 h1 h2 hw1 hne hl1 hl2=> ?_,hH.glob,o,hO.same (fun r1 k1 h1=> ?_) fun r1 k1 h1=> ?_⟩
 ·rcases hrow h1 with⟨rfl,rfl⟩| ⟨_,h1⟩
  ·exact hb l1 hl1
  ·exact hH.blk r1 k1 l1 h1 hl1
 ·rcases hrow h1 with⟨rfl,rfl⟩| ⟨_,g1⟩<;>rcases hrow h2 with⟨rfl,rfl⟩| ⟨_,g2⟩
  ·exact absurd rfl hne
  ·exact hH.sep _ r2 k k2 l1 l2 hk g2 (hw▸hw1) hne hl1 hl2
  ·exact hH.sep r1 _ k1 k l1 l2 g1 hk hw1 hne hl1 hl2
  ·exact hH.sep r1 r2 k1 k2 l1 l2 g1 g2 hw1 hne hl1 hl2
 ·rcases f7 h1 with⟨_,g⟩|h
  ·cases g;exact absurd (eR.1 h1).2 hz
  ·exact h.2
 ·rcases hrow h1 with⟨rfl,rfl⟩| ⟨_,h1⟩
  ·exact⟨k,hk,fun g=>hw▸g⟩
  ·exact⟨k1,h1,id⟩

theorem qR{B:Gd}{w:World}:∀{bx:List (Nat×TypeId×Nat)} {h T:Hp} {ρ:List Loc},wU bx h=some T→HpR B ρ h w→∃ρ2,HpR B (ρ++ρ2) T w
 | [],h,T,ρ,he,hH=>by simp[wU] at he;subst he;exact⟨[],by simpa using hH⟩
 | (r,ty,esz)::bx,h,T,ρ,he,hH=>by
  unfold wU at he
  split at he
  ·rename_i k n hk
   split at he
   ·rename_i hel
    have hp:=hH.pushPh ⟨true,ty,n+1,true,[]⟩ (Nat.succ_ne_zero _) (l:=⟨0,0,0,0,true⟩) rfl
    have hk2:(h++[some ⟨true,ty,n+1,true,[]⟩]:Hp).row r=some k:=by
     have hlt:=kC hk
     obtain⟨h1,h2⟩:=eN.1 hk
     exact eN.2 ⟨by rw[List.getElem?_append_left hlt];exact h1,h2⟩
    have hr:=hp.reRow hk2 (k':={ k with flat:=false,elems:=[.vsl h.length 0 0]}) rfl (eN.1 hk).2 fun l hl=>by
     have hb:=hp.blk r k l hk2 hl
     obtain⟨cur,ty',fr,g1,g2,g3⟩:=hb.rowIs
     refine .ofRow hb.esz g1 (fun i e hi=> ?_) fun hw=> ?_
     ·cases i with
      |succ i=>cases hi
      |zero=>
       cases hi
       obtain⟨c1,c2,c3⟩:=g2 0 (.lit (.slice none 0 0)) (by rw[hel];rfl)
       refine⟨c1,rfl,fun o c hc=> ?_⟩
       cases o with
       |succ o=>cases hc
       |zero=>
        cases hc
        obtain⟨v,hv,hx⟩:=c3 0 _ rfl
        have:v= .slice none 0 0:=by cases hx;rfl
        subst this
        exact⟨_,hv, .vslN rfl⟩
     ·obtain⟨q1,q2,q3,q4,q5,q6,q7⟩:=g3 hw
      exact⟨q1,q2,q3,q4,q5,q6,by rw[hel] at q7;exact q7⟩
    have hs:((h++[some ⟨true,ty,n+1,true,[]⟩]:Hp).set r (some { k with flat:=false,elems:=[.vsl h.length 0 0]}))=h.set r (some { k with flat:=false,elems:=[.vsl h.length 0 0]})++[some ⟨true,ty,n+1,true,[]⟩]:=List.set_append_left _ _ (kC hk)
    rw[hs] at hr
    obtain⟨ρ2,h2⟩:=qR he hr
    exact⟨⟨0,0,0,0,true⟩::ρ2,by simpa using h2⟩
   ·cases he
  ·cases he

def ncG(w:World):Gd:=fun b=>∃o:Obj,w.heap[b]?=some o∧o.isCells=false

theorem BlkR.gd2{ρ:List Loc}{B G:Gd}{w:World}{l:Loc}{k:Blk}(h:BlkR ρ B w l k)(hG:∀b,G b→ncG w b):BlkR ρ (orG B G) w l k:=by
 obtain⟨cur,ty,fr,h1,h2,h3⟩:=h.row
 refine⟨h.esz,cur,ty,fr,h1,h2,fun hw=> ?_⟩
 obtain⟨q1,q2,q3,q4,q5,q6,q7⟩:=h3 hw
 refine⟨q1,q2,q3,q4,q5,fun hB=>hB.elim q6 fun hn=> ?_,q7⟩
 obtain⟨o,o1,o2⟩:=hG _ hn
 rw[h1] at o1
 cases o1;cases o2

theorem HpR.nc{B:Gd}{ρ:List Loc}{h:Hp}{w:World}(hH:HpR B ρ h w)(G:Gd)(hG:∀b,G b→ncG w b)(ho:∀r k,h.obj r=some k→k.wr=false):HpR (orG B G) ρ h w:=by
 obtain⟨o,hO⟩:=hH.objs
 refine⟨hH.len,fun b hb=>hb.elim (hH.base b) fun hn=>let ⟨_,h1,_⟩:=hG b hn;(Array.getElem?_eq_some_iff.1 h1).1,fun r k l hk hl=>(hH.blk r k l hk hl).gd2 hG,hH.sep,hH.glob.mono (jE _ _),o,fun r k l hk hl=> ?_,hO.row,hO.obj,hO.here⟩
 obtain⟨a,b,_,d⟩:=hO.is r k l hk hl
 exact⟨a,b,fun hw=>(by rw[ho r k hk] at hw;cases hw),d⟩

end Go.Sx
end

