/-
 Layer 12: the contract of the program's Lengths: a set of numbers.
-/
import Derived.Test.YtcabofadpheomaaGreatL12a
import Derived.Test.YtcabofadpheomaaGreatL8a
namespace Go.Proofs.YtcabofadpheomaaGreat.L1
open Go.Sx Go.Sx.M

def rc(l:List Sl):List AV:=List.map enE (ensS l)
def wc(l:List Sl)(p:Nat):List Int:=(((ensS l).take p).map En.len).reverse
def AH(l:List Sl)(p:Nat):List AV:=List.map noA (wc l p)
def DB(l:List Sl)(p:Nat):St:=⟨[.any, .any, .any, .mp 1, .any, .any, .any, .any, .vsl 2 0 (rc l).length, .int .i64 (rc l).length, .int .i64 p, .any, .any, .any, .any, .any, .any, .any, .any, .any, .any],[some ⟨false,46,7,true,l.map slE⟩,some ⟨true,116,0,true,AH l p⟩,some ⟨true,44,6,true,rc l⟩]⟩
def Ok:Modes:=⟨[0,0,0,1,0,0,0,0,1,1,2,0,0,0,0,0,0,0,0,0,0],[],[],[],[]⟩
def P0:Modes:=⟨[0,0,0,1,0,0,0,0,1,1,1,0,0,0,0,0,0,0,0,0,0],[],[],[],[]⟩
def Ol:Modes:=⟨[0,0,0,1,0,0,0,0,0,0,0,0,0,0,0,0,0,0,0,0,0],[],[],[],[]⟩
def MV(l:List Sl):List Hint:=[.nm (rc l), .linv _ 0 (DB l) (fun p=>p≤(ensS l).length) (fun p=>(ensS l).length+1-p) Ok P0 Ol (fun _=>[.cell (.int .i64 (lnS l l.length))]) fun p=>
 [.fork [.dy, .cell (enE (at' (ensS l) p)), .rows (AH l (p+1)), .nw] []]]

theorem MU(l:List Sl):∀i,i≤l.length→dfN (((ensS (l.take i)).map En.len).reverse)=lnS l i
 |0,_=>rfl
 |i+1,h=>by
  have ih:=MU l i (by omega)
  rw[gX (show i<l.length from h),lu,lnS]
  cases ho:(at' l i).ok with
  |false=>rw[if_neg (by simp),if_neg (by simp)];exact ih
  |true=>
   rw[if_pos rfl,List.map_append,List.reverse_append]
   show dfN ((at' l i).e.len::((ensS (l.take i)).map En.len).reverse)=_
   have hm:(at' l i).e.len∈((ensS (l.take i)).map En.len).reverse↔knS l i=true:=by
    unfold knS ensS
    rw[List.mem_reverse,List.any_eq_true,List.map_map]
    simp only[List.mem_map,List.mem_filter,Function.comp_apply,Bool.and_eq_true,decide_eq_true_eq]
    exact⟨fun⟨y,⟨h1,h2⟩,h3⟩=>⟨y,h1,h2,h3⟩,fun⟨y,h1,h2,h3⟩=>⟨y,⟨h1,h2⟩,h3⟩⟩
   rw[dfN,ih]
   cases hk:knS l i with
   |true=>rw[if_pos (hm.2 hk),if_neg (by simp)]
   |false=>rw[if_neg (fun h=>by rw[hm.1 h] at hk;cases hk)];rfl

theorem Lx{es es':List AV}{k v:AV}(L:List Int)(n:Int)(h1:es=List.map noA L)(h2:k= .int .i64 n)(h3:v= .agg [])(h4:es'=List.map noA (n::L)):mupd noT es k v es':=by
 first
  |exact⟨rfl,L,n,h1,h2,h3,h4⟩
  |exact .inr ⟨rfl,L,n,h1,h2,h3,h4⟩

noncomputable def lg:List (FuncId×Sx.Spec):=[(54,ey [pSl] jJ)]

theorem Be(l:List Sl)(r:AV):run lg Tryz.prog 27 [.vsl 0 0 (l.map slE).length] [some ⟨false,(pSl.getD (0,0)).1,(pSl.getD (0,0)).2,true,(l.map slE)⟩] (MV l) (eM (.v r))=
  (let m:=(1:Nat);let k:=List.length (ensS l);let j:=List.map slE l;let w:=List.length j;let o:=Blk.mk false (46:TypeId) (7:Nat) true j;let h:=(0:Nat);let g:=Blk.mk true (44:TypeId) (6:Nat) true (rc l);let f:=AV.int IntKind.i64;let s:=f (↑(lnS l (List.length l)):Int);let e:=AV.any;let d:=List.length (rc l);let x:=AV.vsl (h+m+m) h (d);let q:=(↑(d):Int);let c:=List.take (w) (List.drop h j);let t:=List.map enE (ensS (deS (c)));(h+w≤w∧c=List.map slE (deS (c))∧List.length (deS (c))≤(1000000:Nat)∧(t=rc l∧List.length (t)=d)∧(St.mk [e,e,e,AV.mp (h+m),e,e,e,e,x,f q,f (0:Int),e,e,e,e,e,e,e,e,e,e] [some o,some (Blk.mk true (116:Nat) h true []),some g]=DB l h∧Nat.le h (k))∧∀(a:Nat),let u:=List.map noA (wc l a);let n:=(↑a:Int);let y:=Decidable.decide (n<q);let i:=at' (ensS l) a;Nat.le a (k)→(y=true→((0:Int)≤n∧n<q)∧Blk.read Proofs.Tryz.prog g (44:Nat) (h+Int.toNat n) h=some (AV.agg [AV.w64 i.1,AV.w64 i.2,AV.w64 i.3,AV.w64 i.4,f i.5,f i.6])∧mupd (116:Nat) u (f i.5) (AV.agg []) (AH l (a+m))∧inRange IntKind.i64 (n+(1:Int))∧∃(b:Nat),St.mk [e,e,e,AV.mp (h+m),e,e,e,e,x,f q,f (n+(1:Int)),e,e,e,e,e,e,e,e,e,e] [some o,some (Blk.mk true (nat_lit 116) h true (AH l (a+m))),some g]=DB l b∧Nat.le b (k)∧k+m-b<k+m-a)∧(y=false→mlen (116:Nat) u (s)∧s=r))):=by kernel_rfl

theorem yv:∀e∈lg,eJ Tryz.prog e.1 e.2:=by
 intro e he
 simp only[lg,List.mem_cons,List.not_mem_nil,or_false] at he
 rcases he with rfl
 ·exact lX

theorem DV:eJ Tryz.prog 27 (ey [pSl] tK):=by
 refine eK (eS (l:=lg) yv mixed noNG) fun l R hF=> ?_
 unfold tK at hF
 split at hF
 ·rename_i r_l
  obtain⟨hr_l,hl,hF⟩:=hF
  generalize deS r_l=l at hr_l hl hF
  subst hr_l
  refine⟨_,hF,rfl,(MV l), ?_⟩
  show run lg Tryz.prog _ [.vsl 0 0 (l.map slE).length] [some ⟨false,(pSl.getD (0,0)).1,(pSl.getD (0,0)).2,true,(l.map slE)⟩] _ _
  rw[Be];(conv=>zeta)
  have hE:(List.map enE (ensS l)).length=(ensS l).length:=List.length_map _
  have hE2:(rc l).length=(ensS l).length:=List.length_map _
  have hEl:(ensS l).length≤l.length:=fJ l
  simp only[eT,fG,zLe,true_and,hl]
  refine⟨⟨rfl,rfl⟩,⟨rfl,Nat.zero_le _⟩, ?_⟩
  intro p (hp0:p≤(ensS l).length)
  have i0:inRange .i64 ((p:Int)+1):=inR (by omega) (by omega)
  refine⟨fun hlt=> ?_,fun hge=> ?_⟩
  ·have hp:p< (ensS l).length:=by have:=of_decide_eq_true hlt;omega
   have B:0≤(p:Int)∧(p:Int)< ((List.map enE (ensS l)).length:Int):=by omega
   refine⟨B,eL B.1 B.2 (fK _),Lx (wc l p) (at' (ensS l) p).len rfl rfl rfl ?_,i0,p+1,rfl,hp,by omega⟩
   unfold AH wc
   rw[gX hp,List.map_append,List.reverse_append];rfl
  ·have hp:p=(ensS l).length:=by have:=of_decide_eq_false hge;omega
   subst hp
   refine⟨⟨rfl,wc l (ensS l).length,rfl, ?_⟩,trivial⟩
   have:=MU l l.length (Nat.le_refl _)
   rw[List.take_length] at this
   unfold wc
   rw[List.take_length,this]
 ·exact hF.elim

end Go.Proofs.YtcabofadpheomaaGreat.L1
