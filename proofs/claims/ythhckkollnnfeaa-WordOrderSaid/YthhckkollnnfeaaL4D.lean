/-
  Layer 4: the law WordOrder: its condition, its proof.
-/
import Derived.Test.YthhckkollnnfeaaL4C
namespace Go.Proofs.Ythhckkollnnfeaa.L1
open Go.Sx Go.Sx.M

def ordQ : List Hint := [.br false, .fork [.br true, .br true] [.br true, .br true]]
def ordR : List Hint := .br true :: [.fork (.br false :: ordQ) ordQ]

theorem order_run (v w m n c d p q e f g h a b : BitVec 64) : run l4Cs Try.prog 8 [.agg [.w64 v, .w64 w, .w64 m, .w64 n], .agg [.w64 c, .w64 d, .w64 p, .w64 q], .agg [.w64 e, .w64 f, .w64 g, .w64 h], .agg [.w64 a, .w64 b]] [] [.fork [.fork (.br false :: ordR) ordR] [.br false, .br true, .br true, .br true]] isTrue =
    ((Go.Sx.M.wcB v w m n c d p q = Bool.true → (Go.Sx.M.wcB c d p q e f g h = Bool.true → (!Go.Sx.M.wcB v w m n e f g h) = Bool.false ∧ Go.Sx.M.wcB v w m n c d p q = Bool.true ∧ (Go.Sx.M.wmB c d p q a b = Bool.true → (!Go.Sx.M.wmB v w m n a b) = Bool.false ∧ (!Go.Sx.M.wcB v w m n c d p q) = Bool.false ∧ ((!Go.Sx.M.wcB c d p q v w m n) = Bool.true → Go.Sx.M.wcB v w m n v w m n = Bool.true ∧ True ∧ Bool.true = Bool.true) ∧ ((!Go.Sx.M.wcB c d p q v w m n) = Bool.false → (Go.Sx.M.wmB v w m n a b == Go.Sx.M.wmB c d p q a b) = Bool.true ∧ Go.Sx.M.wcB v w m n v w m n = Bool.true ∧ True ∧ Bool.true = Bool.true)) ∧ (Go.Sx.M.wmB c d p q a b = Bool.false → (!Go.Sx.M.wcB v w m n c d p q) = Bool.false ∧ ((!Go.Sx.M.wcB c d p q v w m n) = Bool.true → Go.Sx.M.wcB v w m n v w m n = Bool.true ∧ True ∧ Bool.true = Bool.true) ∧ ((!Go.Sx.M.wcB c d p q v w m n) = Bool.false → (Go.Sx.M.wmB v w m n a b == Go.Sx.M.wmB c d p q a b) = Bool.true ∧ Go.Sx.M.wcB v w m n v w m n = Bool.true ∧ True ∧ Bool.true = Bool.true))) ∧ (Go.Sx.M.wcB c d p q e f g h = Bool.false → Go.Sx.M.wcB v w m n c d p q = Bool.true ∧ (Go.Sx.M.wmB c d p q a b = Bool.true → (!Go.Sx.M.wmB v w m n a b) = Bool.false ∧ (!Go.Sx.M.wcB v w m n c d p q) = Bool.false ∧ ((!Go.Sx.M.wcB c d p q v w m n) = Bool.true → Go.Sx.M.wcB v w m n v w m n = Bool.true ∧ True ∧ Bool.true = Bool.true) ∧ ((!Go.Sx.M.wcB c d p q v w m n) = Bool.false → (Go.Sx.M.wmB v w m n a b == Go.Sx.M.wmB c d p q a b) = Bool.true ∧ Go.Sx.M.wcB v w m n v w m n = Bool.true ∧ True ∧ Bool.true = Bool.true)) ∧ (Go.Sx.M.wmB c d p q a b = Bool.false → (!Go.Sx.M.wcB v w m n c d p q) = Bool.false ∧ ((!Go.Sx.M.wcB c d p q v w m n) = Bool.true → Go.Sx.M.wcB v w m n v w m n = Bool.true ∧ True ∧ Bool.true = Bool.true) ∧ ((!Go.Sx.M.wcB c d p q v w m n) = Bool.false → (Go.Sx.M.wmB v w m n a b == Go.Sx.M.wmB c d p q a b) = Bool.true ∧ Go.Sx.M.wcB v w m n v w m n = Bool.true ∧ True ∧ Bool.true = Bool.true)))) ∧ (Go.Sx.M.wcB v w m n c d p q = Bool.false → Go.Sx.M.wcB v w m n c d p q = Bool.false ∧ (!Go.Sx.M.wcB v w m n c d p q) = Bool.true ∧ Go.Sx.M.wcB v w m n v w m n = Bool.true ∧ True ∧ Bool.true = Bool.true)) := by kernel_rfl

theorem order_law4 (v w m n c d p q e f g h a b : BitVec 64) : ∃ hs, run l4Cs Try.prog 8 [.agg [.w64 v, .w64 w, .w64 m, .w64 n], .agg [.w64 c, .w64 d, .w64 p, .w64 q], .agg [.w64 e, .w64 f, .w64 g, .w64 h], .agg [.w64 a, .w64 b]] [] hs isTrue := by
  refine ⟨[.fork [.fork (.br false :: ordR) ordR] [.br false, .br true, .br true, .br true]], ?_⟩
  rw [order_run]
  have key : wcB v w m n c d p q = true → ((!wcB c d p q v w m n) = false → (wmB v w m n a b == wmB c d p q a b) = true) := fun h1 h2 => by
    rw [Bool.not_eq_false'] at h2
    rw [beq_iff_eq, Bool.eq_iff_iff]
    exact ⟨wc_match h2, wc_match h1⟩
  have kr := wc_refl (v := v) (w := w) (m := m) (n := n)
  refine ⟨fun h1 => ⟨fun h2 => ⟨by rw [wc_trans h1 h2]; rfl, h1, fun h3 => ⟨by rw [wc_match h1 h3]; rfl, by rw [h1]; rfl, fun _ => ⟨kr, trivial, rfl⟩, fun h4 => ⟨key h1 h4, kr, trivial, rfl⟩⟩, fun _ => ⟨by rw [h1]; rfl, fun _ => ⟨kr, trivial, rfl⟩, fun h4 => ⟨key h1 h4, kr, trivial, rfl⟩⟩⟩,
    fun _ => ⟨h1, fun h3 => ⟨by rw [wc_match h1 h3]; rfl, by rw [h1]; rfl, fun _ => ⟨kr, trivial, rfl⟩, fun h4 => ⟨key h1 h4, kr, trivial, rfl⟩⟩, fun _ => ⟨by rw [h1]; rfl, fun _ => ⟨kr, trivial, rfl⟩, fun h4 => ⟨key h1 h4, kr, trivial, rfl⟩⟩⟩⟩,
    fun h1 => ⟨h1, by rw [h1]; rfl, kr, trivial, rfl⟩⟩

end Go.Proofs.Ythhckkollnnfeaa.L1
