/-
 Layer 5: contracts of the library's Clone and SortFunc of entries, and of the program's Sort.
-/
import Derived.Test.YtcabofadpheomaaGreatL5a
import Derived.Test.YtcabofadpheomaaGreatSxQ
import Derived.Test.YtcabofadpheomaaGreatShelf
namespace Go.Proofs.YtcabofadpheomaaGreat.L1
open Go.Sx Go.Sx.M

def Nb(x:En):List Value:=[.int .u64 (x.v.toNat:Int), .int .u64 (x.w.toNat:Int), .int .u64 (x.m.toNat:Int), .int .u64 (x.n.toNat:Int), .int .i64 x.len, .int .i64 x.act]

theorem ON:EncOK enE Nb 6 where
 len _:=rfl
 agg _:=rfl
 cells _:=rfl
 sound _:=rfl
 plain _:=rfl
 rel _:= .cons (.w64 _) (.cons (.w64 _) (.cons (.w64 _) (.cons (.w64 _) (.cons (.int _ _) (.cons (.int _ _) .nil)))))
 det x o c v hc hr:=by
  have hc:[AV.w64 x.v, .w64 x.w, .w64 x.m, .w64 x.n, .int .i64 x.len, .int .i64 x.act][o]?=some c:=hc
  rcases o with _|_|_|_|_|_|o<;>simp at hc
  ·subst hc;rw[rC hr];rfl
  ·subst hc;rw[rC hr];rfl
  ·subst hc;rw[rC hr];rfl
  ·subst hc;rw[rC hr];rfl
  ·subst hc;rw[yf hr];rfl
  ·subst hc;rw[yf hr];rfl
 one x v hv:=by
  simp only[Nb,List.mem_cons,List.not_mem_nil,or_false] at hv
  rcases hv with rfl|rfl|rfl|rfl|rfl|rfl<;>rfl

theorem ltE(x y:En):Go.Proofs.ltOf cpE x y=decide (cpE x y<0):=rfl

theorem QB:Go.Sort.SWO (Go.Proofs.ltOf cpE) where
 irrefl x:=by rw[ltE,gx.2 rfl];rfl
 trans x y z h1 h2:=by
  rw[ltE,decide_eq_true_eq] at*
  have h3:=gR (x:=x) (y:=y) (z:=z) (by omega) (by omega)
  rcases Int.lt_or_eq_of_le h3 with h|h
  ·exact h
  ·have e:=gx.1 h
   subst e
   have:=i4 x y
   omega
 ntrans x y z h1 h2:=by
  rw[ltE,decide_eq_false_iff_not] at*
  have t1:=i4 x y
  have t2:=i4 y z
  have t3:=i4 x z
  have:=gR (x:=z) (y:=y) (z:=x) (by omega) (by omega)
  omega

theorem Qn(x y:En)(h1:Go.Proofs.ltOf cpE x y=false)(h2:Go.Proofs.ltOf cpE y x=false):x=y:=by
 rw[ltE,decide_eq_false_iff_not] at*
 have t:=i4 x y
 exact gx.1 (by omega)

theorem Gn(l:List En):srE l=l.mergeSort fun x y=> !(Go.Proofs.ltOf cpE) y x:=by
 have hle:∀x y:En,(!(Go.Proofs.ltOf cpE) y x)=true↔cpE x y≤0:=fun x y=>by
  rw[ltE,Bool.not_eq_true',decide_eq_false_iff_not]
  have t:=i4 x y
  omega
 refine (kN ?_ (List.mergeSort_perm _ _)).symm
 have hp:=List.pairwise_mergeSort (le:=fun x y=> !(Go.Proofs.ltOf cpE) y x) (fun a b c h1 h2=>(hle a c).2 (gR ((hle a b).1 h1) ((hle b c).1 h2))) (fun a b=>by
  rw[Bool.or_eq_true,hle,hle];exact n9 a b) l
 exact hp.imp fun h=>(hle _ _).1 h

noncomputable def uj:Sx.Spec:=sA 6 78 enE deE srE

theorem Hk:eJ Tryz.prog 77 uj:=
 zP Tryz.laysSlF06_f77 (by decide) Tryz.isAgg44 Tryz.sizeOf44 ON cpE QB Qn Gn ri (fun _ _=>rfl) noNG Tryz.func78 (by kernel_rfl) Tryz.func77 (by kernel_rfl)

def yX:List Arg→(Res→Prop)→Prop
 | [.row r_l],R=>r_l=(deE r_l).map enE∧(deE r_l).length≤1000000∧R (.vrow 44 6 ((deE r_l).map enE))
 |_,_=>False

theorem Ek(l:List En)(F:List En→List AV)(es:List AV):run [] Tryz.prog 76 [.vsl 0 0 (l.map enE).length] [some ⟨false,(pEn.getD (0,0)).1,(pEn.getD (0,0)).2,true,(l.map enE)⟩] [.fork [] [.rows (F l)]] (eM (.vrow 44 6 es))=
  ((List.length (List.map enE l)=(0:Nat)→es=[])∧(((0:Nat)+List.length (List.map enE l))*(48:Nat)≤(140737488355328:Nat)∧(0:Nat)+List.length (List.map enE l)≤(9223372036854775807:Nat)∧(0:Nat)+List.length (List.map enE l)≤List.length (List.map enE l)∧(0:Nat)≤List.length ([]:List AV))∧[]++List.take (List.length (List.map enE l)) (List.drop (0:Nat) (List.map enE l))=F l∧(0:Nat)+List.length (List.map enE l)=List.length es∧some (Blk.mk true (44:Nat) (6:Nat) true (F l))=some (Blk.mk true (44:TypeId) (6:Nat) true es)):=by kernel_rfl

theorem Hq:eJ Tryz.prog 76 (ey [pEn] yX):=by
 refine eK fq fun l R hF=> ?_
 unfold yX at hF
 split at hF
 ·rename_i r_l
  obtain⟨hr_l,hl,hF⟩:=hF
  generalize deE r_l=l at hr_l hl hF
  subst hr_l
  refine⟨_,hF,trivial,[.fork [] [.rows ((List.map enE) l)]], ?_⟩
  show run [] Tryz.prog _ [.vsl 0 0 (l.map enE).length] [some ⟨false,(pEn.getD (0,0)).1,(pEn.getD (0,0)).2,true,(l.map enE)⟩] _ _
  rw[Ek]
  refine⟨fun h=>List.eq_nil_of_length_eq_zero h,⟨by rw[List.length_map];omega,by rw[List.length_map];omega,by omega,Nat.zero_le _⟩, ?_,by omega,rfl⟩
  rw[List.nil_append,eT]
 ·exact hF.elim

noncomputable def pW:List (FuncId×Sx.Spec):=[(76,ey [pEn] yX),
 (77,uj)]

theorem Hl(l:List En)(es:List AV):run pW Tryz.prog 39 [.vsl 0 0 (l.map enE).length] [some ⟨false,(pEn.getD (0,0)).1,(pEn.getD (0,0)).2,true,(l.map enE)⟩] [] (eM (.vrow 44 6 es))=
  (let c:=List.map enE;let d:=List.length (c l);let a:=List.take (d) (List.drop (0:Nat) (c l));let b:=c (deE (a));let e:=List.length (b);((0:Nat)+d≤d∧a=b∧List.length (deE (a))≤(1000000:Nat)∧(b)=c (deE (b))∧e=List.length (deE (b))∧e< (4611686018427387904:Nat)∧e=List.length es∧some (Blk.mk true (nat_lit 44) (6:Nat) true (c (srE (deE (b)))))=some (Blk.mk true (44:TypeId) (6:Nat) true es))):=by kernel_rfl

theorem Ei:∀e∈pW,eJ Tryz.prog e.1 e.2:=by
 intro e he
 simp only[pW,List.mem_cons,List.not_mem_nil,or_false] at he
 rcases he with rfl|rfl
 ·exact Hq
 ·exact Hk

theorem uk:eJ Tryz.prog 39 (ey [pEn] ja):=by
 refine eK (eS (l:=pW) Ei mixed noNG) fun l R hF=> ?_
 unfold ja at hF
 split at hF
 ·rename_i r_l
  obtain⟨hr_l,hl,hF⟩:=hF
  generalize deE r_l=l at hr_l hl hF
  subst hr_l
  refine⟨_,hF,trivial,[], ?_⟩
  show run pW Tryz.prog _ [.vsl 0 0 (l.map enE).length] [some ⟨false,(pEn.getD (0,0)).1,(pEn.getD (0,0)).2,true,(l.map enE)⟩] _ _
  rw[Hl];(conv=>zeta)
  simp only[eT,gg]
  exact⟨by omega,by trivial,hl,by trivial,by rw[List.length_map],by rw[List.length_map];omega,by rw[List.length_map,List.length_map,fj],by trivial⟩
 ·exact hF.elim

end Go.Proofs.YtcabofadpheomaaGreat.L1
