/-
 Texts in one: L4A L4B L4I.
-/
import Derived.Test.YtcabofadpheomaaGreatLa
import Derived.Test.YtcabofadpheomaaGreatL1a
import Derived.Test.YtcabofadpheomaaGreatMa

section
namespace Go.Proofs.YtcabofadpheomaaGreat.L1
open Go.Sx Go.Sx.M

theorem kW(n:Int):mkW (clamp n)=mkW n∧mkW (clamp n-64)=mkW (n-64):=
 ⟨jp fun i hi=>by unfold clamp;omega,jp fun i hi=>by unfold clamp;omega⟩

def xa:List Arg→(Res→Prop)→Prop
 | [.v (.agg [.w64 v, .w64 w, .w64 m, .w64 n]), .v (.agg [.w64 a, .w64 b])],R=>R (.v (.bool (wmB v w m n a b)))
 |_,_=>False

theorem CN(v w m n a b:BitVec 64)(r:AV):run [] Tryz.prog 86 [.agg [.w64 v, .w64 w, .w64 m, .w64 n], .agg [.w64 a, .w64 b]] [] [] (eM (.v r))=
  (Go.Sx.AV.bool (a&&&m==v&&&m&&b&&&n==w&&&n)=r):=by kernel_rfl

theorem Gf:eJ Tryz.prog 86 (ey [none,none] xa):=by
 refine eK fq fun l R hF=> ?_
 unfold xa at hF
 split at hF
 ·rename_i v w m n a b
  refine⟨_,hF,rfl,[], ?_⟩
  show run [] Tryz.prog _ [.agg [.w64 v, .w64 w, .w64 m, .w64 n], .agg [.w64 a, .w64 b]] [] _ _
  rw[CN]
  all_goals rfl
 ·exact hF.elim

def w9:List Arg→(Res→Prop)→Prop
 | [.v (.agg [.w64 v, .w64 w, .w64 m, .w64 n]), .v (.agg [.w64 c, .w64 d, .w64 p, .w64 q])],R=>R (.v (.bool (wtB v w m n c d p q)))
 |_,_=>False

theorem Ge(v w m n c d p q:BitVec 64)(r:AV):run [] Tryz.prog 130 [.agg [.w64 v, .w64 w, .w64 m, .w64 n], .agg [.w64 c, .w64 d, .w64 p, .w64 q]] [] [] (eM (.v r))=
  (Go.Sx.AV.bool ((v^^^c)&&&(m&&&p)==BitVec.ofInt (64:Nat) (0:Int)&&(w^^^d)&&&(n&&&q)==BitVec.ofInt (64:Nat) (0:Int))=r):=by kernel_rfl

theorem zz:eJ Tryz.prog 130 (ey [none,none] w9):=by
 refine eK fq fun l R hF=> ?_
 unfold w9 at hF
 split at hF
 ·rename_i v w m n c d p q
  refine⟨_,hF,rfl,[], ?_⟩
  show run [] Tryz.prog _ [.agg [.w64 v, .w64 w, .w64 m, .w64 n], .agg [.w64 c, .w64 d, .w64 p, .w64 q]] [] _ _
  rw[Ge]
  all_goals rfl
 ·exact hF.elim

def CO:List Arg→(Res→Prop)→Prop
 | [.v (.agg [.w64 v, .w64 w, .w64 m, .w64 n]), .v (.agg [.w64 c, .w64 d, .w64 p, .w64 q])],R=>R (.v (.tuple [.agg [.w64 (selW (wtB v w m n c d p q) (v&&&m|||c&&&p)), .w64 (selW (wtB v w m n c d p q) (w&&&n|||d&&&q)), .w64 (selW (wtB v w m n c d p q) (m|||p)), .w64 (selW (wtB v w m n c d p q) (n|||q))], .bool (wtB v w m n c d p q)]))
 |_,_=>False

noncomputable def pa:List (FuncId×Sx.Spec):=[(130,ey [none,none] w9)]

theorem Gi(v w m n c d p q:BitVec 64)(r:AV):run pa Tryz.prog 109 [.agg [.w64 v, .w64 w, .w64 m, .w64 n], .agg [.w64 c, .w64 d, .w64 p, .w64 q]] [] [.fork [] []] (eM (.v r))=
  (((!Go.Sx.M.wtB v w m n c d p q)=Bool.true→Go.Sx.AV.tuple [Go.Sx.AV.agg [Go.Sx.AV.w64 (BitVec.ofInt (64:Nat) (0:Int)),Go.Sx.AV.w64 (BitVec.ofInt (64:Nat) (0:Int)),Go.Sx.AV.w64 (BitVec.ofInt (64:Nat) (0:Int)),Go.Sx.AV.w64 (BitVec.ofInt (64:Nat) (0:Int))],Go.Sx.AV.bool Bool.false]=r)∧((!Go.Sx.M.wtB v w m n c d p q)=Bool.false→Go.Sx.AV.tuple [Go.Sx.AV.agg [Go.Sx.AV.w64 (v&&&m|||c&&&p),Go.Sx.AV.w64 (w&&&n|||d&&&q),Go.Sx.AV.w64 (m|||p),Go.Sx.AV.w64 (n|||q)],Go.Sx.AV.bool Bool.true]=r)):=by kernel_rfl

theorem CP:∀e∈pa,eJ Tryz.prog e.1 e.2:=by
 intro e he
 simp only[pa,List.mem_cons,List.not_mem_nil,or_false] at he
 rcases he with rfl
 ·exact zz

theorem HJ:eJ Tryz.prog 109 (ey [none,none] CO):=by
 refine eK (eS (l:=pa) CP mixed noNG) fun l R hF=> ?_
 unfold CO at hF
 split at hF
 ·rename_i v w m n c d p q
  refine⟨_,hF,rfl,[.fork [] []], ?_⟩
  show run pa Tryz.prog _ [.agg [.w64 v, .w64 w, .w64 m, .w64 n], .agg [.w64 c, .w64 d, .w64 p, .w64 q]] [] _ _
  rw[Gi]
  refine⟨fun h=> ?_,fun h=> ?_⟩
  ·rw[show wtB v w m n c d p q=false from by simpa using h];rfl
  ·rw[show wtB v w m n c d p q=true from by simpa using h];rfl
 ·exact hF.elim

def wX:List Arg→(Res→Prop)→Prop
 | [.v (.agg [.w64 v, .w64 w, .w64 m, .w64 n])],R=>R (.v (.bool (v&&&m==v&&w&&&n==w)))
 |_,_=>False

theorem CJ(v w m n:BitVec 64)(r:AV):run [] Tryz.prog 107 [.agg [.w64 v, .w64 w, .w64 m, .w64 n]] [] [] (eM (.v r))=
  (Go.Sx.AV.bool (v&&&m==v&&w&&&n==w&&(m==m&&n==n))=r):=by kernel_rfl

theorem Ga:eJ Tryz.prog 107 (ey [none] wX):=by
 refine eK fq fun l R hF=> ?_
 unfold wX at hF
 split at hF
 ·rename_i v w m n
  refine⟨_,hF,rfl,[], ?_⟩
  show run [] Tryz.prog _ [.agg [.w64 v, .w64 w, .w64 m, .w64 n]] [] _ _
  rw[CJ]
  simp
 ·exact hF.elim

def Nv:List Arg→(Res→Prop)→Prop
 | [.v (.agg [.w64 a, .w64 b, .int .i64 k])],R=>R (.v (.agg [.w64 (a&&&mkW k), .w64 (b&&&mkW (k-64)), .w64 (mkW k), .w64 (mkW (k-64))]))
 |_,_=>False

noncomputable def zx:List (FuncId×Sx.Spec):=[(106,ey [none] Fd),
 (62,ey [none,none] AE)]

theorem KS(a b:BitVec 64)(k:Int)(r:AV):run zx Tryz.prog 63 [.agg [.w64 a, .w64 b, .int .i64 k]] [] [] (eM (.v r))=
  (Go.Sx.AV.agg [Go.Sx.AV.w64 (a&&&Go.Proofs.YtcabofadpheomaaGreat.L1.mkW k),Go.Sx.AV.w64 (b&&&Go.Proofs.YtcabofadpheomaaGreat.L1.mkW (k-(64:Int))),Go.Sx.AV.w64 (Go.Proofs.YtcabofadpheomaaGreat.L1.mkW (Go.Proofs.YtcabofadpheomaaGreat.L1.clamp k)),Go.Sx.AV.w64 (Go.Proofs.YtcabofadpheomaaGreat.L1.mkW (Go.Proofs.YtcabofadpheomaaGreat.L1.clamp k-(64:Int)))]=r):=by kernel_rfl

theorem HG:∀e∈zx,eJ Tryz.prog e.1 e.2:=by
 intro e he
 simp only[zx,List.mem_cons,List.not_mem_nil,or_false] at he
 rcases he with rfl|rfl
 ·exact CB
 ·exact sN

theorem Nu:eJ Tryz.prog 63 (ey [none] Nv):=by
 refine eK (eS (l:=zx) HG mixed noNG) fun l R hF=> ?_
 unfold Nv at hF
 split at hF
 ·rename_i a b k
  refine⟨_,hF,rfl,[], ?_⟩
  show run zx Tryz.prog _ [.agg [.w64 a, .w64 b, .int .i64 k]] [] _ _
  rw[KS]
  rw[(kW k).1,(kW k).2]
 ·exact hF.elim

def w8:List Arg→(Res→Prop)→Prop
 | [.v (.agg [.w64 v, .w64 w, .w64 m, .w64 n]), .v (.agg [.w64 c, .w64 d, .w64 p, .w64 q])],R=>R (.v (.tuple [.agg [.w64 (selW (mgB v w m n c d p q) (v&&&(m^^^(v^^^c)&&&m))), .w64 (selW (mgB v w m n c d p q) (w&&&(n^^^(w^^^d)&&&n))), .w64 (selW (mgB v w m n c d p q) (m^^^(v^^^c)&&&m)), .w64 (selW (mgB v w m n c d p q) (n^^^(w^^^d)&&&n))], .bool (mgB v w m n c d p q)]))
 |_,_=>False

noncomputable def mz:List (FuncId×Sx.Spec):=[(135,ey [none] IH)]

theorem CL(v w m n c d p q:BitVec 64)(r:AV):run mz Tryz.prog 112 [.agg [.w64 v, .w64 w, .w64 m, .w64 n], .agg [.w64 c, .w64 d, .w64 p, .w64 q]] [] [.fork [] [.fork [] []]] (eM (.v r))=
  (let h:= !(m==p&&n==q);let g:=n^^^(w^^^d)&&&n;let f:=m^^^(v^^^c)&&&m;let b:=(↑(Go.Sx.M.cnt (64:Nat) (BitVec.toNat ((v^^^c)&&&m))):Int)+(↑(Go.Sx.M.cnt (64:Nat) (BitVec.toNat ((w^^^d)&&&n))):Int) !=(1:Int);let a:=Go.Sx.AV.w64 (BitVec.ofInt (64:Nat) (0:Int));let e:=Go.Sx.AV.tuple [Go.Sx.AV.agg [a,a,a,a],Go.Sx.AV.bool Bool.false]=r;((h=Bool.true→e)∧(h=Bool.false→(b=Bool.true→e)∧(b=Bool.false→Go.Sx.AV.tuple [Go.Sx.AV.agg [Go.Sx.AV.w64 (v&&&f),Go.Sx.AV.w64 (w&&&g),Go.Sx.AV.w64 f,Go.Sx.AV.w64 g],Go.Sx.AV.bool Bool.true]=r)))):=by kernel_rfl

theorem zy:∀e∈mz,eJ Tryz.prog e.1 e.2:=by
 intro e he
 simp only[mz,List.mem_cons,List.not_mem_nil,or_false] at he
 rcases he with rfl
 ·exact Lk

theorem Gc:eJ Tryz.prog 112 (ey [none,none] w8):=by
 refine eK (eS (l:=mz) zy mixed noNG) fun l R hF=> ?_
 unfold w8 at hF
 split at hF
 ·rename_i v w m n c d p q
  refine⟨_,hF,rfl,[.fork [] [.fork [] []]], ?_⟩
  show run mz Tryz.prog _ [.agg [.w64 v, .w64 w, .w64 m, .w64 n], .agg [.w64 c, .w64 d, .w64 p, .w64 q]] [] _ _
  rw[CL];(conv=>zeta)
  rw[←Int.natCast_add,Ht]
  refine⟨fun h=> ?_,fun h=>⟨fun h2=> ?_,fun h2=> ?_⟩⟩
  ·rw[show mgB v w m n c d p q=false from by unfold mgB;rw[show (m==p&&n==q)=false from by
     cases hh:(m==p&&n==q) with
     |false=>rfl
     |true=>rw[hh] at h;exact absurd h (by decide)];rfl];rfl
  ·rw[show mgB v w m n c d p q=false from by
    unfold mgB
    rw[Bool.and_eq_false_iff];right
    simp only[bne_iff_ne,ne_eq] at h2
    rw[beq_eq_false_iff_ne];omega]
   rfl
  ·rw[show mgB v w m n c d p q=true from by
    unfold mgB
    rw[Bool.and_eq_true]
    refine⟨by simpa [jb] using h, ?_⟩
    simp only[bne_eq_false_iff_eq] at h2
    rw[beq_iff_eq];omega]
   rfl
 ·exact hF.elim

end Go.Proofs.YtcabofadpheomaaGreat.L1
end

section
namespace Go.Proofs.YtcabofadpheomaaGreat.L1
open Go.Sx Go.Sx.M

def bx(x y:BitVec 64):Option Blk:=some ⟨true,4,1,true,fY x y⟩

end Go.Proofs.YtcabofadpheomaaGreat.L1
end

section
namespace Go.Proofs.YtcabofadpheomaaGreat.L1
open Go.Sx Go.Sx.M

end Go.Proofs.YtcabofadpheomaaGreat.L1
end

