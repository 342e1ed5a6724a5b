/-
 The calculus (SxA): contracts of calls on an object: that only ask it; that change its state.
-/
import Derived.Test.YtcabofadpheomaaGreatSxM
namespace Go.Sx
open Go.RowKit

def Pt(ty:TypeId)(es:List AV)(x:AV)(v:AV)(h:Hp)(_:List Hint):Prop:=kI v=x∧rT h 0 (oh ty es)

section
variable {P:Program}

theorem rG{h0 hp:Hp}{r:Nat}{k:Blk}(hk:(h0++hp:Hp).row r=some k):(r<h0.length∧h0.row r=some k)∨(h0.length≤r∧hp.row (r-h0.length)=some k):=by
 obtain⟨h1,h2⟩:=eN.1 hk
 by_cases hr:r<h0.length
 ·rw[List.getElem?_append_left hr] at h1;exact .inl ⟨hr,eN.2 ⟨h1,h2⟩⟩
 ·rw[List.getElem?_append_right (by omega)] at h1;exact .inr ⟨by omega,eN.2 ⟨h1,h2⟩⟩

theorem pw{h0 hp:Hp}{r:Nat}{k:Blk}(hk:(h0++hp:Hp).obj r=some k):(r<h0.length∧h0.obj r=some k)∨(h0.length≤r∧hp.obj (r-h0.length)=some k):=by
 obtain⟨h1,h2⟩:=eR.1 hk
 by_cases hr:r<h0.length
 ·rw[List.getElem?_append_left hr] at h1;exact .inl ⟨hr,eR.2 ⟨h1,h2⟩⟩
 ·rw[List.getElem?_append_right (by omega)] at h1;exact .inr ⟨by omega,eR.2 ⟨h1,h2⟩⟩

theorem KF{ρ0 ρc:List Loc}{r:Nat}{l:Loc}(h:At (ρ0++ρc) r l):(r<ρ0.length→At ρ0 r l)∧(ρ0.length≤r→At ρc (r-ρ0.length) l):=by
 obtain⟨h,hp⟩:=h
 exact⟨fun hr=>⟨by rw[List.getElem?_append_left hr] at h;exact h,hp⟩,fun hr=>⟨by rw[List.getElem?_append_right hr] at h;exact h,hp⟩⟩

theorem HpR.opened{w:World}{own:List Nat}(hown:∀b∈own,b<w.heap.size){h0:Hp}{ρ0:List Loc}{o0:Nat→List Nat}(hl0:ρ0.length=h0.length)
  (hrow:∀r k l,h0.row r=some k→At ρ0 r l→k.wr=true∧BlkR ρ0 (fun _=>False) w l k) (hwr:∀r k l,h0.obj r=some k→At ρ0 r l→k.wr=true∧l.off=0) (hat:∀r k,h0.obj r=some k→∃l,At ρ0 r l) (hobj:∀r k l,h0.obj r=some k→At ρ0 r l→ObjR k.ty k.elems l.b (o0 r) w)
  (hsep:∀r r' b',r≠r'→o6 o0 h0 ρ0 r b'→¬o6 o0 h0 ρ0 r' b') (hin:∀r b',o6 o0 h0 ρ0 r b'→b'∈own∧b'<w.heap.size) (hG:gl (but w.heap.size own) w)
  {ρc:List Loc} {hp:Hp} (hlc:ρc.length=hp.length) (hR:rq (fun b=>b ∉ own) ρc hp w):HpR (but w.heap.size own) (ρ0++ρc) (h0++hp) w:=by
 have _:=hown
 have ownr:∀{r k l},h0.row r=some k→At ρ0 r l→l.b∈own:=fun hk ha=>(hin _ _ ⟨_,ha, .inl ⟨_,hk,rfl⟩⟩).1
 have owno:∀{r k l},h0.obj r=some k→At ρ0 r l→∀b∈o0 r,b∈own∧b<w.heap.size:=fun hk ha b hb=>hin _ _ ⟨_,ha, .inr ⟨_,hk,hb⟩⟩
 have lo:∀{r l},r<h0.length→At (ρ0++ρc) r l→At ρ0 r l:=fun hr ha=>(KF ha).1 (by rw[hl0];exact hr)
 have hi:∀{r l},h0.length≤r→At (ρ0++ρc) r l→At ρc (r-h0.length) l:=fun hr ha=>by rw[←hl0];exact (KF ha).2 (by rw[hl0];exact hr)
 refine⟨by rw[List.length_append,List.length_append,hl0,hlc],fun b hb=>hb.1,fun r k l hk ha=> ?_,fun r r' k k' l l' hk hk' hw hne ha ha'=> ?_,hG,o0,fun r k l hk ha=> ?_,fun r r' k k' l l' hk hk' ha ha' _ hm=> ?_,fun r r' k k' l l' hk hk' hne ha ha' b hm hm'=> ?_,fun r k hk=> ?_⟩
 rotate_left 5
 ·rcases pw hk with⟨_,g⟩| ⟨_,g⟩
  ·exact let ⟨l,hl⟩:=hat r k g;⟨l,getElem?_app ρc hl⟩
  ·exact (hR.2.2 _ k g).elim
 ·rcases rG hk with⟨hr,g⟩| ⟨hr,g⟩
  ·exact ((hrow r k l g (lo hr ha)).2.app _).gd fun _ hB=>hB.2 (ownr g (lo hr ha))
  ·obtain⟨q1,q2⟩:=hR.2.1 _ k l g (hi hr ha)
   exact (q2 _).gd fun hw=>by rw[q1] at hw;cases hw
 ·rcases rG hk with⟨hr,g⟩| ⟨hr,g⟩<;>rcases rG hk' with⟨hr',g'⟩| ⟨hr',g'⟩
  ·intro e
   exact hsep r r' l.b hne ⟨l,lo hr ha, .inl ⟨k,g,rfl⟩⟩ ⟨l',lo hr' ha', .inl ⟨k',g',e⟩⟩
  ·intro e
   have h1:=ownr g (lo hr ha)
   rw[e] at h1
   exact hR.1 _ k' l' g' (hi hr' ha') h1
  ·have:=(hR.2.1 _ k l g (hi hr ha)).1
   rw[this] at hw;cases hw
  ·have:=(hR.2.1 _ k l g (hi hr ha)).1
   rw[this] at hw;cases hw
 ·rcases pw hk with⟨hr,g⟩| ⟨hr,g⟩
  ·exact⟨hobj r k l g (lo hr ha),fun b hb=>(owno g (lo hr ha) b hb).2,fun _ b hb hB=>hB.2 (owno g (lo hr ha) b hb).1,(hwr r k l g (lo hr ha)).2⟩
  ·exact (hR.2.2 _ k g).elim
 ·rcases pw hk with⟨hr,g⟩| ⟨hr,g⟩
  ·rcases rG hk' with⟨hr',g'⟩| ⟨hr',g'⟩
   ·by_cases e:r=r'
    ·subst e;exact oD g' g
    ·exact hsep r r' l'.b e ⟨l,lo hr ha, .inr ⟨k,g,hm⟩⟩ ⟨l',lo hr' ha', .inl ⟨k',g',rfl⟩⟩
   ·exact hR.1 _ k' l' g' (hi hr' ha') (owno g (lo hr ha) _ hm).1
  ·exact (hR.2.2 _ k g).elim
 ·rcases pw hk with⟨hr,g⟩| ⟨hr,g⟩
  ·rcases pw hk' with⟨hr',g'⟩| ⟨hr',g'⟩
   ·exact hsep r r' b hne ⟨l,lo hr ha, .inr ⟨k,g,hm⟩⟩ ⟨l',lo hr' ha', .inr ⟨k',g',hm'⟩⟩
   ·exact (hR.2.2 _ k' g').elim
  ·exact (hR.2.2 _ k g).elim

end
end Go.Sx
