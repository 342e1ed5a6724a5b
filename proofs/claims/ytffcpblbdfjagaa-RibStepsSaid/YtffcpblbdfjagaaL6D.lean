/-
  Layer 6: what the contracts of the program's calls on routes say.
-/
import Derived.Test.YtffcpblbdfjagaaL6C
namespace Go.Proofs.Ytffcpblbdfjagaa.L1
open Go.Sx Go.Sx.M

/-- Which rows are tables. -/
def gtableF : List Arg → (Res → Prop) → Prop
  | [.v (.int .i64 w), .row r_l], R => r_l = (deR r_l).map roE ∧ (deR r_l).length ≤ 1000000 ∧ R (.v (.bool (tbR w (deR r_l))))
  | _, _ => False

/-- Of a table: a prefix's route, the best one for an address, what is to be done; with a route more, or less; the nearest one that covers, and what is covered; how many cover one another. -/
def gfindF : List Arg → (Res → Prop) → Prop
  | [.row r_l, .v (.agg [.w64 a, .w64 b, .int .i64 k])], R => r_l = (deR r_l).map roE ∧ tbR 128 (deR r_l) = true ∧ R (.v (.tuple [.agg [.w64 (roO (fdR (deR r_l) ⟨a, b, k⟩)).p.a, .w64 (roO (fdR (deR r_l) ⟨a, b, k⟩)).p.b, .int .i64 (roO (fdR (deR r_l) ⟨a, b, k⟩)).p.len, .int .i64 (roO (fdR (deR r_l) ⟨a, b, k⟩)).act], .bool (fdR (deR r_l) ⟨a, b, k⟩).isSome]))
  | _, _ => False

def gbestF : List Arg → (Res → Prop) → Prop
  | [.row r_l, .v (.agg [.w64 c, .w64 d])], R => r_l = (deR r_l).map roE ∧ tbR 128 (deR r_l) = true ∧ R (.v (.tuple [.agg [.w64 (roO (bsR (deR r_l) c d)).p.a, .w64 (roO (bsR (deR r_l) c d)).p.b, .int .i64 (roO (bsR (deR r_l) c d)).p.len, .int .i64 (roO (bsR (deR r_l) c d)).act], .bool (bsR (deR r_l) c d).isSome]))
  | _, _ => False

def gtellF : List Arg → (Res → Prop) → Prop
  | [.row r_l, .v (.agg [.w64 c, .w64 d])], R => r_l = (deR r_l).map roE ∧ tbR 128 (deR r_l) = true ∧ R (.v (.int .i64 (tlR (deR r_l) c d)))
  | _, _ => False

def gcoverF : List Arg → (Res → Prop) → Prop
  | [.row r_l, .v (.agg [.w64 a, .w64 b, .int .i64 k])], R => r_l = (deR r_l).map roE ∧ tbR 128 (deR r_l) = true ∧ riP 128 ⟨a, b, k⟩ = true ∧ R (.v (.tuple [.agg [.w64 (roO (cvrR (deR r_l) ⟨a, b, k⟩)).p.a, .w64 (roO (cvrR (deR r_l) ⟨a, b, k⟩)).p.b, .int .i64 (roO (cvrR (deR r_l) ⟨a, b, k⟩)).p.len, .int .i64 (roO (cvrR (deR r_l) ⟨a, b, k⟩)).act], .bool (cvrR (deR r_l) ⟨a, b, k⟩).isSome]))
  | _, _ => False

def gunderF : List Arg → (Res → Prop) → Prop
  | [.row r_l, .v (.agg [.w64 a, .w64 b, .int .i64 k])], R => r_l = (deR r_l).map roE ∧ tbR 128 (deR r_l) = true ∧ riP 128 ⟨a, b, k⟩ = true ∧ R (.vrow 29 4 ((unR (deR r_l) ⟨a, b, k⟩).map roE))
  | _, _ => False

def gdropF : List Arg → (Res → Prop) → Prop
  | [.row r_l, .v (.agg [.w64 a, .w64 b, .int .i64 k])], R => r_l = (deR r_l).map roE ∧ tbR 128 (deR r_l) = true ∧ R (.vrow 29 4 ((drR (deR r_l) ⟨a, b, k⟩).map roE))
  | _, _ => False

def gputF : List Arg → (Res → Prop) → Prop
  | [.row r_l, .v (.agg [.w64 a, .w64 b, .int .i64 k, .int .i64 j])], R => r_l = (deR r_l).map roE ∧ tbR 128 (deR r_l) = true ∧ riR 128 ⟨⟨a, b, k⟩, j⟩ = true ∧ R (.vrow 29 4 ((ptR (deR r_l) ⟨⟨a, b, k⟩, j⟩).map roE))
  | _, _ => False

def gchainF : List Arg → (Res → Prop) → Prop
  | [.row r_l], R => r_l = (deR r_l).map roE ∧ tbR 128 (deR r_l) = true ∧ R (.v (.int .i64 (chR (deR r_l))))
  | _, _ => False

/-- The laws' calls. -/
noncomputable def l6Cs : List (FuncId × Sx.Spec) := [(11, awakeSpec), (17, genSpec [pRo] of6F), (14, genSpec [none] one6F), (21, genSpec [pRo, pRefR] same6F), (18, genSpec [pRo] table6F),
  (12, genSpec [none, none] rrrF), (15, genSpec [none, pRo] gtableF), (25, genSpec [pRo, none] gfindF), (26, genSpec [pRo, none] gbestF), (29, genSpec [pRo, none] gtellF), (32, genSpec [pRo, none] gcoverF), (34, genSpec [pRo, none] gunderF), (20, genSpec [pRo, none] gdropF), (19, genSpec [pRo, none] gputF), (36, genSpec [pRo] gchainF),
  (31, genSpec [none, none] rightF), (38, genSpec [none, none] matchF),
  (13, genSpec [none, none] rrrF), (16, genSpec [none, pRefR] rrtableF), (27, genSpec [pRefR, none] rrfindF), (28, genSpec [pRefR, none] rrbestF), (30, genSpec [pRefR, none] rrtellF), (33, genSpec [pRefR, none] rrcoverF), (35, genSpec [pRefR, none] rrunderF), (23, genSpec [pRefR, none] rrdropF), (22, genSpec [pRefR, none] rrputF), (37, genSpec [pRefR] (chnF 1000001))]

end Go.Proofs.Ytffcpblbdfjagaa.L1
