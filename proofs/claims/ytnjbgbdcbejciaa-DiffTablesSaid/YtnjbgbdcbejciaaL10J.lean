/-
  Entries as keys of maps.
-/
import Derived.Test.YtnjbgbdcbejciaaProg
import Derived.Test.YtnjbgbdcbejciaaSxC
import Derived.WalkKit
import Derived.KernelRfl
import Derived.Laws.StructEq
import Derived.WideKeyEntry
namespace Go.Proofs.Ytnjbgbdcbejciaa.L1
open Go Go.Proofs Go.RowKit Go.Sx Go.Sx.M

theorem check47 (em : Bool) (x : En) (w : World) : (Instr.checkKey em 10000 42 (valE x)).run Try.prog w = .ok () w := by kernel_rfl

theorem stays47 (x : En) (w : World) : (Instr.keyThatStays (valE x) (valE x)).run Try.prog w = .ok (valE x) w := by
  simp [Instr.keyThatStays, Instr.sameBits, valE, encV]

theorem valE_inj {x y : En} (h : valE x = valE y) : x = y := by
  have h1 : (encV x).toArray = (encV y).toArray := Value.agg.inj h
  have h2 : encV x = encV y := by simpa using congrArg Array.toList h1
  simp only [encV, List.cons.injEq, Value.int.injEq, true_and, and_true, Int.natCast_inj] at h2
  obtain ⟨a, b, c, d, e, f⟩ := h2
  cases x; cases y
  simp only [En.mk.injEq]
  exact ⟨BitVec.eq_of_toNat_eq a, BitVec.eq_of_toNat_eq b, BitVec.eq_of_toNat_eq c, BitVec.eq_of_toNat_eq d, e, f⟩

theorem en_rel (x : En) : AVR [] (enA x) (valE x) := .agg (.cons (.w64 _) (.cons (.w64 _) (.cons (.w64 _) (.cons (.w64 _) (.cons (.int _ _) (.cons (.int _ _) .nil))))))

theorem eqT47 (p q : En) : Sx.eqT Try.prog 8 42 (enA p) (enA q) = some ((p.v == q.v && p.w == q.w && (p.m == q.m && p.n == q.n)) && (p.len == q.len && p.act == q.act)) := by kernel_rfl

theorem eqEn' (x y : En) : (x.v == y.v && x.w == y.w && (x.m == y.m && x.n == y.n) && (x.len == y.len && x.act == y.act)) = decide (x = y) := by
  rw [Bool.eq_iff_iff]
  simp only [Bool.and_eq_true, beq_iff_eq, decide_eq_true_eq]
  constructor
  · rintro ⟨⟨⟨a, b⟩, c, d⟩, e, f⟩
    cases x; cases y
    simp_all
  · rintro rfl; simp

theorem eq47 (p q : En) (w : World) : (Op.equal 42 (valE p) (valE q)).run Try.prog w = .ok (decide (p = q)) w := by
  have h := eqT_sound (ρ := []) 8 (eqT47 p q) (en_rel p) (en_rel q) 10000 (by omega) w
  rw [eqEn'] at h; exact h

theorem asks47 (p : En) (w : World) : ∀ (l : List MapEntry) (i : Nat), (∀ e ∈ l, ∃ q, e.key = valE q) →
    ((Instr.findAsking 42 (valE p) l i).run Try.prog w = .ok none w ∧ ∀ e ∈ l, e.key ≠ valE p) ∨ ∃ j e, (Instr.findAsking 42 (valE p) l i).run Try.prog w = .ok (some (i + j, e.val)) w ∧ l[j]? = some e ∧ e.key = valE p
  | [], i, _ => .inl ⟨rfl, by simp⟩
  | e :: l, i, h => by
    obtain ⟨q, hq⟩ := h e List.mem_cons_self
    by_cases hpq : p = q
    · subst hpq
      refine .inr ⟨0, e, ?_, rfl, hq⟩
      simp [Instr.findAsking, hq, eq47, Result.andThen]
    · have hne : e.key ≠ valE p := fun h => hpq (valE_inj (hq ▸ h)).symm
      rcases asks47 p w l (i + 1) fun e he => h e (List.mem_cons_of_mem _ he) with ⟨h1, h2⟩ | ⟨j, e', h1, h2, h3⟩
      · refine .inl ⟨?_, fun e' he' => ?_⟩
        · simp [Instr.findAsking, hq, eq47, Result.andThen, hpq, h1]
        · rcases List.mem_cons.1 he' with rfl | he'
          · exact hne
          · exact h2 e' he'
      · refine .inr ⟨j + 1, e', ?_, by simpa using h2, h3⟩
        simp only [Instr.findAsking, hq, Sem.run_bind, eq47, Result.andThen, hpq, decide_false, Bool.false_eq_true, if_false, h1]
        rw [Nat.add_assoc, Nat.add_comm 1 j]

theorem find47 (p : En) (w : World) (l : List MapEntry) (h : ∀ e ∈ l, ∃ q, e.key = valE q) :
    ((Instr.findKey 42 (valE p) l).run Try.prog w = .ok none w ∧ ∀ e ∈ l, e.key ≠ valE p) ∨ ∃ j e, (Instr.findKey 42 (valE p) l).run Try.prog w = .ok (some (j, e.val)) w ∧ l[j]? = some e ∧ e.key = valE p := by
  cases l with
  | nil =>
    refine .inl ⟨?_, by simp⟩
    simp [Instr.findKey, run_underlying Try.underlying42, Instr.findNow, Result.andThen]
  | cons e l =>
    have hr : (Instr.findKey 42 (valE p) (e :: l)).run Try.prog w = (Instr.findAsking 42 (valE p) (e :: l)).run Try.prog w := by
      simp [Instr.findKey, run_underlying Try.underlying42, Instr.findNow, Instr.sameNow, Result.andThen, valE]
    rw [hr]
    simpa using asks47 p w (e :: l) 0 h

theorem enA_inv {ρ : List Sx.Loc} {x : En} {v : Value} (h : AVR ρ (enA x) v) : v = valE x := by
  unfold enA at h
  cases h with
  | agg h =>
    cases h with | cons a h => cases h with | cons b h => cases h with | cons c h => cases h with | cons d h => cases h with | cons e h => cases h with | cons f h =>
      cases h; cases a; cases b; cases c; cases d; cases e; cases f; rfl

end Go.Proofs.Ytnjbgbdcbejciaa.L1
