/-
 The calculus (SxA): a row that is sorted in place by a function of two values (the library's sort), as a contract of the calculus.
-/
import Derived.Test.YtcabofadpheomaaGreatSxc
import Derived.Shelf.SlSortCmp.NoneTotal
namespace Go.Sx
open Go.RowKit Go.Sort

structure EncOK{T:Type}(en:T→AV)(encV:T→List Value)(k:Nat):Prop where
 len:∀x:T,(encV x).length=k
 agg:∀x,en x= .agg (en x).cells
 cells:∀x,(en x).cells.length=k
 sound:∀x,(en x).sound=true
 plain:∀x,(en x).plain=true
 rel:∀x,AVRs [] (en x).cells (encV x)
 det:∀(x:T) (o:Nat) (c:AV) (v:Value),(en x).cells[o]?=some c→AVR [] c v→(encV x)[o]?=some v
 one:∀x,∀v∈encV x,v.oneCell'=true

section
variable {P:Program}

theorem Bel.grow{w w':World}(h:Bel (bl w.heap.size) w w'):∃q os,w'=grow (w.drewN q) os:=by
 refine⟨w'.drawn-w.drawn,(w'.heap.extract w.heap.size w'.heap.size), ?_⟩
 have hh:w'.heap=w.heap++w'.heap.extract w.heap.size w'.heap.size:=by
  apply Array.ext_getElem?
  intro i
  by_cases hi:i<w.heap.size
  ·rw[Array.getElem?_append_left hi,h.block i hi]
  ·rw[Array.getElem?_append_right (by omega),Array.getElem?_extract]
   by_cases hj:i<w'.heap.size
   ·rw[if_pos (by omega)];congr 1;omega
   ·rw[if_neg (by omega),Array.getElem?_eq_none (by omega)]
 have hd:w.drawn+(w'.drawn-w.drawn)=w'.drawn:=Nat.add_sub_cancel' (h.drawn rfl)
 unfold Sort.grow World.drewN
 cases w' with
 |mk heap tape drawn os output=>
  have h1:=h.os;have h2:=h.tape;have h3:=h.output
  simp only at h1 h2 h3 hh hd⊢
  subst h1;subst h2;subst h3
  rw[←hh,hd]

theorem eJ.two{g:FuncId}{sp:Spec}(hok:eJ P g sp){fn:Func}(hf:P.funcs[g]?=some fn)(hg:noNG P=true)(hb:fn.body.isSome=true){x y:AV}{r:Int}{vx vy:Value}
  (hsp:sp [x,y] [] (fun v _=>v= .int .i64 r)) (rx:AVR [] x vx) (ry:AVR [] y vy) {w:World} (hG:gl w.heap.size w):
  Calls P g #[vx,vy] w fun e w'=>e= .returned (.int .i64 r)∧∃q os',w'=grow (w.drewN q) os':=by
 obtain⟨c,hc⟩:=Option.isSome_iff_exists.1 hb
 have hent:=kH (P:=P) hf hg hc #[vx,vy] w
 rcases hok [x,y] [] _ hsp w.heap.size [] w [vx,vy] (HpR.nil hG) (.cons rx (.cons ry .nil)) with⟨_,h⟩| ⟨v,w',h,_⟩
 ·refine h.mono fun e w' he=> ?_
  cases e with
  |returned u=>
   obtain⟨ρ',x',h',rfl,hr,_,hbl⟩:=he
   rw[yf hr]
   exact⟨rfl,hbl.grow⟩
  |panicked c=>exact he.elim
  |outgrown=>exact he.elim
 ·rw[show #[vx,vy]=[vx,vy].toArray from rfl] at hent
  rw[hent] at h;cases h

def xq{T:Type}(esz:Nat)(en:T→AV)(de:List AV→List T)(S:List T→List T)(h:Hp)(r n:Nat)(K:AV→Hp→Prop):Prop:=
 match h.row r with
 |some k=>match k.wr&&k.flat&&decide (k.esz=esz) with
  |true=>k.elems=(de k.elems).map en∧n=(de k.elems).length∧n<4611686018427387904∧K (.tuple []) (h.set r (some ⟨k.wr,k.ty,k.esz,k.flat,(S (de k.elems)).map en⟩))
  |false=>False
 |none=>False

def sA{T:Type}(esz:Nat)(g:FuncId)(en:T→AV)(de:List AV→List T)(S:List T→List T):Spec:=fun args h K=>
 match args with
 | [x, .func (.func g') [] []]=>match decide (g'=g) with
  |true=>match x with
   | .vsl r 0 n=>xq esz en de S h r n K
   | .slice r 0 n _=>xq esz en de S h r n K
   | .lit (.slice none 0 0)=>K (.tuple []) h
   |_=>False
  |false=>False
 |_=>False

theorem xK(F cur:Array Value)(t:Nat)(hF:t<F.size)(hc:t<cur.size):(putCells id 0 F cur)[t]?=some F[t]!:=by
 unfold putCells
 rw[Array.getElem?_mapIdx,Array.getElem?_eq_getElem hc,Option.map_some,if_pos (by omega),Nat.sub_zero]
 rfl

theorem zP{T:Type}[Inhabited T]{ren:Go.Shelf.Ren}(L:Go.Proofs.SlLaysF0.n6 P ren){esz:Nat}{g:FuncId}{en:T→AV}{encV:T→List Value}{de:List AV→List T}{S:List T→List T}(hpos:0<esz)
  (aE:∀w,(isAgg (ren.t 24)).run P w= .ok true w) (zE:∀w,(Go.sizeOf (ren.t 24)).run P w= .ok esz w) (E:EncOK en encV esz) (cf:T→T→Int) (hO:SWO (Go.Proofs.ltOf cf))
  (hT:∀x y,(Go.Proofs.ltOf cf) x y=false→(Go.Proofs.ltOf cf) y x=false→x=y) (hS:∀l,S l=l.mergeSort fun x y=> !(Go.Proofs.ltOf cf) y x)
  {sp:Spec} (hok:eJ P g sp) (hsp:∀x y,sp [en x,en y] [] (fun v _=>v= .int .i64 (cf x y))) (hg:noNG P=true) {fg ff:Func} (hfg:P.funcs[g]?=some fg) (hbg:fg.body.isSome=true)
  (hff:P.funcs[ren.f 6]?=some ff) (hbf:ff.body.isSome=true):eJ P (ren.f 6) (sA esz g en de S):=by
 obtain⟨cg,hcg⟩:=Option.isSome_iff_exists.1 hbg
 obtain⟨cff,hcf⟩:=Option.isSome_iff_exists.1 hbf
 have eg:∀args w,(callFunc g args).run P w= .ok (.enter g args) w:=fun args w=>kH (P:=P) hfg hg hcg args w
 have rel:∀x,AVR [] (en x) (.agg (encV x).toArray):=fun x=>by rw[E.agg x];exact .agg (E.rel x)
 intro args h K hK B ρ w vs hH hv
 refine .inl ⟨kH (P:=P) hff hg hcf _ _, ?_⟩
 --no element
 have none':∀(p:Option Addr) (c:Nat),(∃h',K (.tuple []) h'∧HpR B ρ h' w)→vs=[.slice p 0 c, .func (.func g) #[] #[]]→
   Calls P (ren.f 6) vs.toArray w fun e w'=>match e with
    | .returned v=>∃ρ' x h',K x h'∧AVR (ρ++ρ') x v∧HpR B (ρ++ρ') h' w'∧Bel B w w'
    |_=>False:=by
  rintro p c ⟨h',hk,hh⟩ rfl
  refine (Go.Proofs.AnyF.slices_SortFunc_none L p c (.func (.func g) #[] #[]) w).mono ?_
  rintro e w' ⟨rfl,rfl⟩
  exact⟨[],_,h',hk, .tuple .nil,by rw[List.append_nil];exact hh, .refl _ _⟩
 --a row
 have row:∀(r n:Nat) (v:Value),xq esz en de S h r n K→AVR ρ (.vsl r 0 n) v→vs=[v, .func (.func g) #[] #[]]→
   Calls P (ren.f 6) vs.toArray w fun e w'=>match e with
    | .returned v=>∃ρ' x h',K x h'∧AVR (ρ++ρ') x v∧HpR B (ρ++ρ') h' w'∧Bel B w w'
    |_=>False:=by
  intro r n v hK hx hvs
  unfold xq at hK
  split at hK
  ·rename_i k hk
   split at hK
   ·rename_i hc
    simp only[Bool.and_eq_true,decide_eq_true_eq] at hc
    obtain⟨⟨hw,hfl⟩,hez⟩:=hc
    obtain⟨hel,hn,hbig,hk'⟩:=hK
    generalize hl0:de k.elems=l0 at hel hn hk'
    have zero:n=0→∃h',K (.tuple []) h'∧HpR B ρ h' w:=fun h0=>by
     have e0:l0=[]:=List.eq_nil_of_length_eq_zero (by omega)
     subst e0
     refine⟨_,hk', ?_⟩
     have e1:(⟨k.wr,k.ty,k.esz,k.flat,(S []).map en⟩:Blk)=k:=by
      rw[hS]
      have:k.elems=[]:=hel
      cases k;simp at this;subst this;simp
     rw[e1,jc hk]
     exact hH
    rcases fQ hx with⟨h0,rfl⟩|hx
    ·exact none' _ _ (zero h0) hvs
    ·obtain⟨l,ad,cc,hl,h1,hcc,h2,rfl⟩:=e8 (hx true)
     rcases Nat.eq_zero_or_pos n with h0|h0
     ·subst h0;exact none' _ _ (zero rfl) hvs
     ·have hb:=hH.blk r k l hk hl
      obtain⟨cur,ty,fr,hrow,hri,hcap⟩:=hb.rowIs
      obtain⟨c0,c1,c2,c3,c4,c5,c6⟩:=hcap hw
      have had:ad=⟨l.b,0,none⟩:=by rw[h2 (by omega),c2];simp
      subst had
      have hlt:=hb.lt
      rw[c2,List.drop_zero,hfl,hez] at hri
      rw[hez] at c3
      have hkl:k.elems.length=l0.length:=by rw[hel,List.length_map]
      have hmul:l0.length*esz≤cur.size:=by rw[c3];exact Nat.mul_le_mul_right _ (by omega)
      have hcellv:∀i,i<l0.length→∀o,o<esz→cur[i*esz+o]?=some (encV l0[i]!)[o]!:=fun i hi o ho=>by
       have hie:k.elems[i]?=some (en l0[i]!):=by rw[hel,List.getElem?_map,List.getElem?_eq_getElem hi,getElem!_pos l0 i hi];rfl
       obtain⟨q1,q2,q3⟩:=hri i _ hie
       have hol:o< (en l0[i]!).cells.length:=by rw[E.cells];exact ho
       obtain⟨u,hu,hr⟩:=q3 o _ (List.getElem?_eq_getElem hol)
       have hd:=E.det _ o _ u (List.getElem?_eq_getElem hol) (by simpa using hr)
       have hoe:o< (encV l0[i]!).length:=by rw[E.len];exact ho
       rw[getElem!_pos _ o hoe]
       rw[List.getElem?_eq_getElem hoe] at hd
       rw[Option.some_inj] at hd
       rw[hd,←hu,Array.getElem?_toList]
      have hHolds:HoldsK encV esz w l.b 0 l0.toArray:=by
       intro t ht
       rw[size_flatK,List.size_toArray] at ht
       have hi:t/esz<l0.length:=Nat.div_lt_of_lt_mul (by rw[Nat.mul_comm];exact ht)
       have ho:t%esz<esz:=Nat.mod_lt _ hpos
       have hcv:=hcellv _ hi _ ho
       rw[Nat.div_add_mod' t esz] at hcv
       rw[get_flatK _ _ _ _ (by rw[List.size_toArray];exact ht)]
       refine⟨?_, ?_⟩
       ·show World.cell? w ⟨l.b,0+t,none⟩=some (encV l0.toArray[t/esz]!)[t%esz]!
        unfold World.cell?
        rw[hrow,Nat.zero_add]
        simp only[Option.isSome_none,Bool.false_eq_true,if_false]
        rw[hcv]
        simp
       ·unfold World.frozen?
        rw[hrow,c1]
        simp
      have bw:∀m os (dk:Array T),Bel B w (Go.Proofs.sortWorldK encV esz w l.b 0 m dk os):=fun m os dk=>by
       refine⟨⟨rfl,rfl,rfl, ?_,fun j hj=> ?_⟩, ?_⟩
       ·show w.heap.size≤((w.heap.modify l.b _)++os).size
        rw[Array.size_append,Array.size_modify];omega
       ·show ((w.heap.modify l.b _)++os)[j]?=w.heap[j]?
        rw[Array.getElem?_append_left (by rw[Array.size_modify];exact hH.base _ hj),Array.getElem?_modify,if_neg fun (e:l.b=j)=>c5 (by rw[e];exact hj)]
       ·intro _
        show w.drawn≤w.drawn+m
        omega
      have hcmp:Go.Proofs.CmpLays P g #[] encV esz cf l.b 0 l0.toArray.size w:=fun m os dk hd x y=>by
       have hG:gl (Go.Proofs.sortWorldK encV esz w l.b 0 m dk os).heap.size (Go.Proofs.sortWorldK encV esz w l.b 0 m dk os):=(hH.glob.below (bw m os dk)).mono (hH.base.trans (iw (bw m os dk).size))
       exact hok.two hfg hg hbg (hsp x y) (rel x) (rel y) hG
      have hmain:=Go.Proofs.AnyQ.slices_SortFunc_total L esz aE zE encV E.len E.one cf hO g #[] l.b 0 cc l0.toArray w eg hcmp hHolds hlt (by rw[List.size_toArray];omega) hT
      rw[hvs,show n=l0.toArray.size from by rw[List.size_toArray];exact hn]
      refine hmain.mono ?_
      rintro e w' ⟨rfl,m,os,rfl⟩
      have hSl:(l0.toArray.toList.mergeSort fun x y=> !(Go.Proofs.ltOf cf) y x)=S l0:=by rw[hS]
      rw[hSl]
      have hlen:(S l0).length=l0.length:=by rw[hS,List.length_mergeSort]
      have hbw:=bw m os (S l0).toArray
      have hnew:(Go.Proofs.sortWorldK encV esz w l.b 0 m (S l0).toArray os).heap[l.b]?=some (.cells (putCells id 0 (flatK encV esz (S l0).toArray) cur) ty fr):=by
       show ((w.heap.modify l.b _)++os)[l.b]?=_
       rw[Array.getElem?_append_left (by rw[Array.size_modify];exact hlt),Array.getElem?_modify,if_pos rfl,hrow]
       rfl
      have hblk:BlkR ρ B (Go.Proofs.sortWorldK encV esz w l.b 0 m (S l0).toArray os) l ⟨k.wr,k.ty,k.esz,k.flat,(S l0).map en⟩:=by
       refine .ofRow (by show l.esz=k.esz;exact hb.esz) hnew ?_ fun _=>⟨c0,c1,c2,by unfold putCells;rw[Array.size_mapIdx,c3,hez],c4,c5,by rw[List.length_map,hlen];omega⟩
       rw[c2,List.drop_zero]
       show fh ρ k.flat k.esz ((S l0).map en) _
       rw[hfl,hez]
       intro i e hi
       rw[List.getElem?_map] at hi
       by_cases hil:i< (S l0).length
       ·rw[List.getElem?_eq_getElem hil,Option.map_some,Option.some_inj] at hi
        subst hi
        refine⟨E.cells _,E.sound _,fun o c hc=> ?_⟩
        obtain⟨u,hu,hr⟩:=(E.rel (S l0)[i]).get hc
        refine⟨u, ?_,by simpa using hr⟩
        have ho:o<esz:=by rw[←E.cells (S l0)[i]];exact (List.getElem?_eq_some_iff.1 hc).1
        have ht:i*esz+o< (S l0).length*esz:=by
         have:=Nat.mul_le_mul_right esz (show i+1≤(S l0).length from hil)
         rw[Nat.add_mul,Nat.one_mul] at this;omega
        rw[Array.getElem?_toList,xK _ _ _ (by rw[size_flatK,List.size_toArray];exact ht) (by rw[hlen] at ht;omega),get_flatK _ _ _ _ (by rw[List.size_toArray];exact ht)]
        have e1:(i*esz+o)/esz=i:=(blk_iff esz i _ hpos).1 ⟨by omega,by omega⟩
        have e2:(i*esz+o)%esz=o:=by rw[Nat.mod_eq_sub_div_mul,e1];omega
        rw[e1,e2]
        have hoe:o< (encV (S l0)[i]).length:=by rw[E.len];exact ho
        rw[List.getElem?_eq_getElem hoe,Option.some_inj] at hu
        rw[List.getElem!_toArray,getElem!_pos (S l0) i hil,getElem!_pos _ o hoe,hu]
       ·rw[List.getElem?_eq_none (by omega)] at hi;simp at hi
      obtain⟨g1,g2⟩:=hH.written hk hl hw (k':=⟨k.wr,k.ty,k.esz,k.flat,(S l0).map en⟩) hbw.size (fun j hj hne=>by
       show ((w.heap.modify l.b _)++os)[j]?=w.heap[j]?
       rw[Array.getElem?_append_left (by rw[Array.size_modify];exact hj),Array.getElem?_modify,if_neg (by omega)]) rfl rfl rfl (hbw.drawn rfl) hblk (eN.1 hk).2
      exact⟨[],_,_,hk', .tuple .nil,by rw[List.append_nil];exact g1,g2⟩
   ·exact hK.elim
  ·exact hK.elim
 unfold sA at hK
 split at hK
 ·rename_i x g'
  split at hK
  ·rename_i hgg
   obtain rfl:=of_decide_eq_true hgg
   cases hv with
   |cons hx hv=>cases hv with
    |cons hy hv=>
     cases hv
     cases hy with
     |func ha hb=>
      cases ha;cases hb
      split at hK
      ·exact row _ _ _ hK hx rfl
      ·exact row _ _ _ hK (i7 hx) rfl
      ·cases hx
       exact none' _ _ ⟨_,hK,hH⟩ rfl
      ·exact hK.elim
  ·exact hK.elim
 ·exact hK.elim

end
end Go.Sx
