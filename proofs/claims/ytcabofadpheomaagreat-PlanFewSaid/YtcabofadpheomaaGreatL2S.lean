/-
 Layer 2: contracts of the document's own Make, Match, Covers, Compare.
-/
import Derived.Test.YtcabofadpheomaaGreatLa
namespace Go.Proofs.YtcabofadpheomaaGreat.L1
open Go.Sx Go.Sx.M

noncomputable def Ib:List (FuncId×Sx.Spec):=[(87,ey [none,none] B9)]

theorem Ii(a b:BitVec 64)(n:Int)(c d:BitVec 64)(m:Int)(r:AV):run Ib Tryz.prog 56 [.agg [.w64 a, .w64 b, .int .i64 n], .agg [.w64 c, .w64 d, .int .i64 m]] [] [.fork [.fork [] [.br true, .fork [] []]] [.br false]] (eM (.v r))=
  (let i:=Decidable.decide (n>m);let h:=Decidable.decide (n<m);let f:=Go.Sx.AV.int Go.IntKind.i64;let e:=Go.Sx.M.cmpV (Go.Sx.M.V a b) (Go.Sx.M.V c d);let g:=e==(0:Int);((g=Bool.true→(h=Bool.true→f (-1:Int)=r)∧(h=Bool.false→g=Bool.true∧(i=Bool.true→f (1:Int)=r)∧(i=Bool.false→f (e)=r)))∧(g=Bool.false→g=Bool.false∧f (e)=r))):=by kernel_rfl

theorem kW(n:Int):mkW (clamp n)=mkW n∧mkW (clamp n-64)=mkW (n-64):=
 ⟨jp fun i hi=>by unfold clamp;omega,jp fun i hi=>by unfold clamp;omega⟩

theorem La:∀e∈Ib,eJ Tryz.prog e.1 e.2:=by
 intro e he
 simp only[Ib,List.mem_cons,List.not_mem_nil,or_false] at he
 subst he
 exact Kl

theorem Lb:eJ Tryz.prog 56 (ey [none,none] wA):=by
 refine eK (eS (l:=Ib) La mixed noNG) fun l R hF=> ?_
 unfold wA at hF
 split at hF
 ·rename_i a b n c d m
  refine⟨_,hF,rfl,[.fork [.fork [] [.br true, .fork [] []]] [.br false]], ?_⟩
  show run Ib Tryz.prog _ [.agg [.w64 a, .w64 b, .int .i64 n], .agg [.w64 c, .w64 d, .int .i64 m]] [] _ _
  rw[Ii];(conv=>zeta)
  simp only[decide_eq_true_eq,decide_eq_false_iff_not,beq_iff_eq,beq_eq_false_iff_ne,ne_eq]
  refine⟨fun h=>⟨fun h1=> ?_,fun h1=>⟨h,fun h2=> ?_,fun h2=> ?_⟩⟩,fun h=>⟨h, ?_⟩⟩
  all_goals
   congr 1
   unfold rB orI
  ·rw[if_pos h];unfold cmpI;rw[if_neg (by omega),if_pos h1]
  ·rw[if_pos h];unfold cmpI;rw[if_neg (by omega),if_neg h1]
  ·rw[if_pos h,h];unfold cmpI;rw[if_pos (by omega)]
  ·rw[if_neg h]
 ·exact hF.elim

end Go.Proofs.YtcabofadpheomaaGreat.L1
