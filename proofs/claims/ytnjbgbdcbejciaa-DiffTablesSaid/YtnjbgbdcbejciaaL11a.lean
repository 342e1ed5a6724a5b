/-
  Texts in one: L11T L11A L11B L11D.
-/
import Derived.Test.YtnjbgbdcbejciaaL5a
import Derived.Test.YtnjbgbdcbejciaaMc
import Derived.Test.YtnjbgbdcbejciaaL10a

section
/-
  Layer 11: steps as values of the calculus.
-/
namespace Go.Proofs.Ytnjbgbdcbejciaa.L1
open Go.Sx Go.Sx.M

/-- A step's cells. -/
def spE (s : Sp) : AV := .agg [.int .i64 s.k, .w64 s.e.v, .w64 s.e.w, .w64 s.e.m, .w64 s.e.n, .int .i64 s.e.len, .int .i64 s.e.act]

def deSp1 (x : AV) : Sp := ⟨cI (x.cells.getD 0 .any), ⟨cW (x.cells.getD 1 .any), cW (x.cells.getD 2 .any), cW (x.cells.getD 3 .any), cW (x.cells.getD 4 .any), cI (x.cells.getD 5 .any), cI (x.cells.getD 6 .any)⟩⟩
def deSp (l : List AV) : List Sp := l.map deSp1
theorem deSp_map (l : List Sp) : deSp (l.map spE) = l := by
  unfold deSp
  rw [List.map_map]
  exact List.map_id l

/-- Rows of the program's steps, of the document's. -/
def pSp : Par := some (59, 7)
def pRefSp : Par := some (56, 7)

theorem sp_whole (s : Sp) : partOf Try.prog 59 (spE s).cells 0 = some (spE s) := by kernel_rfl
theorem rsp_whole (s : Sp) : partOf Try.prog 56 (spE s).cells 0 = some (spE s) := by kernel_rfl
theorem rsp_kind (s : Sp) : partOf Try.prog 3 (spE s).cells 0 = some (.int .i64 s.k) := by kernel_rfl

end Go.Proofs.Ytnjbgbdcbejciaa.L1
end

section
/-
  Layer 11: the document's Alike, find, Once, Do.
-/
namespace Go.Proofs.Ytnjbgbdcbejciaa.L1
open Go.Sx Go.Sx.M

end Go.Proofs.Ytnjbgbdcbejciaa.L1
end

section
/-
  Layer 11: the document's Steps.
-/
namespace Go.Proofs.Ytnjbgbdcbejciaa.L1
open Go.Sx Go.Sx.M

/-- The steps of the second row's first p entries; those, and of the first row's last p. -/
def suU (a b : List En) (p : Nat) : List Sp := (b.take p).flatMap (stU a)
def suV (a b : List En) (p : Nat) : List Sp := b.flatMap (stU a) ++ (a.reverse.take p).flatMap (stV b)
/-- The first row, once and sorted. -/
def soE (l : List En) : List En := srE (onE l)

theorem suU_next {a b : List En} {p : Nat} (hp : p < b.length) : suU a b (p + 1) = suU a b p ++ stU a (at' b p) := by
  have e : b.take (p + 1) = b.take p ++ [at' b p] := by rw [List.take_add_one, at_get hp]; rfl
  unfold suU
  rw [e, List.flatMap_append]
  simp

theorem suV_next {a b : List En} {p : Nat} (hp : p < a.length) : suV a b (p + 1) = suV a b p ++ stV b (at' a (a.length - 1 - p)) := by
  have e : a.reverse.take (p + 1) = a.reverse.take p ++ [at' a (a.length - 1 - p)] := by
    rw [List.take_add_one]
    congr 1
    rw [List.getElem?_reverse hp, at_get (by omega)]; rfl
  unfold suV
  rw [e, List.flatMap_append, List.append_assoc]
  simp

theorem flat_le {f : En → List Sp} (hf : ∀ y, (f y).length ≤ 1) (b : List En) : (b.flatMap f).length ≤ b.length := by
  induction b with
  | nil => exact Nat.le_refl _
  | cons y b ih =>
    rw [List.flatMap_cons, List.length_append, List.length_cons]
    have := hf y
    omega

theorem suU_le (a b : List En) (p : Nat) : (suU a b p).length ≤ p := Nat.le_trans (flat_le (stU_one a) _) (by rw [List.length_take]; omega)
theorem suV_le (a b : List En) (p : Nat) : (suV a b p).length ≤ b.length + p := by
  unfold suV
  rw [List.length_append]
  have h1 := flat_le (stU_one a) b
  have h2 := flat_le (stV_one b) (a.reverse.take p)
  rw [List.length_take] at h2
  omega

end Go.Proofs.Ytnjbgbdcbejciaa.L1
end

section
/-
  Layer 11: what the contracts of the program's calls say; the law's same; what the document fixes of two rows.
-/
namespace Go.Proofs.Ytnjbgbdcbejciaa.L1
open Go.Sx Go.Sx.M

def gonce11F : List Arg → (Res → Prop) → Prop
  | [.row r_l], R => r_l = (deE r_l).map enE ∧ (deE r_l).length ≤ 1000000 ∧ R (.vrow 42 6 ((onE (deE r_l)).map enE))
  | _, _ => False

def gsteps11F : List Arg → (Res → Prop) → Prop
  | [.row r_l, .row r_m], R => r_l = (deE r_l).map enE ∧ (deE r_l).length ≤ 1000000 ∧ r_m = (deE r_m).map enE ∧ (deE r_m).length ≤ 1000000 ∧ R (.vrow 59 7 ((stE (deE r_l) (deE r_m)).map spE))
  | _, _ => False

def gdo11F : List Arg → (Res → Prop) → Prop
  | [.row r_l, .v (.agg [.int .i64 i, .w64 v, .w64 w, .w64 m, .w64 n, .int .i64 k, .int .i64 j])], R => r_l = (deE r_l).map enE ∧ (deE r_l).length ≤ 1000000 ∧ R (.vrow 42 6 ((doE (deE r_l) ⟨i, v, w, m, n, k, j⟩).map enE))
  | _, _ => False

def gcount11F : List Arg → (Res → Prop) → Prop
  | [.row r_l], R => r_l = (deSp r_l).map spE ∧ (deSp r_l).length ≤ 1000000 ∧ R (.v (.agg [.int .i64 (ctE 0 (deSp r_l)), .int .i64 (ctE 1 (deSp r_l)), .int .i64 (ctE 2 (deSp r_l))]))
  | _, _ => False

noncomputable def awake11Cs : List (FuncId × Sx.Spec) := [(37, genSpec [none, none] makeF), (58, genSpec [none, none] eofF), (24, genSpec [pEn, pEn] gsteps11F), (31, genSpec [pEn, none] gdo11F), (27, genSpec [pSp] gcount11F)]

def told11F : List Arg → (Res → Prop) → Prop
  | [.row r_l, .row r_m, .v (.agg [.w64 _, .w64 _])], R => r_l = (deE r_l).map enE ∧ ((deE r_l).length ≤ 1000 ∧ siE (deE r_l) = true) ∧ r_m = (deE r_m).map enE ∧ ((deE r_m).length ≤ 1000 ∧ siE (deE r_m) = true) ∧ R (.v (.bool true))
  | _, _ => False

/-- Those of the law of tables. -/
noncomputable def l11dCs : List (FuncId × Sx.Spec) := [(23, awakeSpec), (35, genSpec [pEn, pEn, none] told11F), (11, genSpec [pRo] table9F), (15, genSpec [pRo, none] gbuild10F)]

end Go.Proofs.Ytnjbgbdcbejciaa.L1
end

