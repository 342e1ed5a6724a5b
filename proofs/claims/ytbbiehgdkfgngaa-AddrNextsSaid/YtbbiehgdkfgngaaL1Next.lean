/-
  Layer 1: contracts of Add64, and of the document's and the program's Next.
-/
import Derived.Test.YtbbiehgdkfgngaaL1Op
import Derived.Test.YtbbiehgdkfgngaaM05
import Derived.Laws.Externs
import Derived.Below
namespace Go.Proofs.Ytbbiehgdkfgngaa.L1
open Go.Sx Go.Sx.M Go.RowKit

def add64Spec : Sx.Spec := fun args h K => match args.map canon with
  | [.w64 x, .w64 y, .w64 c] => c.toNat ≤ 1 ∧ K (.tuple [.w64 (BitVec.ofNat 64 (x.toNat + y.toNat + c.toNat)), .w64 (BitVec.ofNat 64 ((x.toNat + y.toNat + c.toNat) / 2 ^ 64))]) h
  | _ => False

theorem add64_ok : SpecOK Try.prog 55 add64Spec := by
  intro args h K hK B ρ w vs hH hv
  unfold add64Spec at hK
  split at hK
  · rename_i x y c hargs
    obtain ⟨hc, hK⟩ := hK
    have hr := canon_rels hv
    rw [hargs] at hr
    cases hr with
    | cons h0 hr => cases hr with
      | cons h1 hr => cases hr with
        | cons h2 hr => cases hr with
          | nil =>
            cases h0; cases h1; cases h2
            have hx := x.isLt
            have hy := y.isLt
            refine .inr ⟨.tuple #[.int .u64 (((x.toNat : Int) + y.toNat + c.toNat) % 18446744073709551616), .int .u64 (((x.toNat : Int) + y.toNat + c.toNat) / 18446744073709551616)], w, ?_, [], _, h, hK, ?_, by simpa using hH, Below.refl _ _⟩
            · rw [run_callFunc_extern Try.func55 (by kernel_rfl) (by kernel_rfl) (by kernel_rfl) (e := add64Entry) (by kernel_rfl), run_add64 x.toNat y.toNat c.toNat (by omega) (by omega) (by omega) (by omega)]
              rfl
            · have e1 : ((BitVec.ofNat 64 (x.toNat + y.toNat + c.toNat)).toNat : Int) = ((x.toNat : Int) + y.toNat + c.toNat) % 18446744073709551616 := by
                rw [BitVec.toNat_ofNat]; omega
              have e2 : ((BitVec.ofNat 64 ((x.toNat + y.toNat + c.toNat) / 2 ^ 64)).toNat : Int) = ((x.toNat : Int) + y.toNat + c.toNat) / 18446744073709551616 := by
                rw [BitVec.toNat_ofNat]; omega
              have := AVR.tuple (ρ := ρ ++ []) (.cons (.w64 (BitVec.ofNat 64 (x.toNat + y.toNat + c.toNat))) (.cons (.w64 (BitVec.ofNat 64 ((x.toNat + y.toNat + c.toNat) / 2 ^ 64))) .nil))
              rw [e1, e2] at this
              exact this
  · exact hK.elim

noncomputable def nextCs : List (FuncId × Sx.Spec) := [(55, add64Spec)]

def nextSt (F : List Bool → List AV) (p : Int × List Bool) : St :=
  ⟨[.any, .any, .ptr 1 0 0 true, .slice 2 0 128 false, .int .i64 p.1, .any, .any, .any, .any, .any, .any, .any, .any, .any, .any, .any, .any, .any, .any, .any, .any, .any, .any, .any, .any, .any, .any],
   [none, some ⟨true, 23, 2, true, [.agg [.lit (.int .u64 0), .lit (.int .u64 0)]]⟩, some ⟨true, 4, 1, true, F p.2⟩]⟩

def nextM0 : Modes := ⟨[0, 0, 1, 1, 2, 0, 0, 0, 0, 0, 0, 0, 0, 0, 0, 0, 0, 0, 0, 0, 0, 0, 0, 0, 0, 0, 0], [0, 1, 2], [0, 1, 1], [], []⟩
def nextM : Modes := ⟨[0, 0, 1, 1, 1, 0, 0, 0, 0, 0, 0, 0, 0, 0, 0, 0, 0, 0, 0, 0, 0, 0, 0, 0, 0, 0, 0], [0, 1, 2], [0, 1, 1], [], []⟩

/-- Turned to false behind place k. -/
def turned (f : Nat → Bool) (k : Int) : List Bool := (List.range 128).map fun (i : Nat) => if k < (i : Int) then false else f i

/-- Likewise, and place k true. -/
def stepped (f : Nat → Bool) (k : Int) : List Bool := (List.range 128).map fun (i : Nat) => if k < (i : Int) then false else if k = (i : Int) then true else f i

def nextI (a b : BitVec 64) (p : Int × List Bool) : Prop := -1 ≤ p.1 ∧ p.1 ≤ 127 ∧ p.2 = turned (bitAt a b) p.1 ∧ ∀ i : Nat, p.1 < (i : Int) → i < 128 → bitAt a b i = true

def nextH (F : List Bool → List AV) (a b : BitVec 64) : List Hint := [.linv _ (127, turned (bitAt a b) 127) (nextSt F) (nextI a b) (fun p => (p.1 + 1).toNat) nextM0 nextM nextM (fun p => [.fork [.dy, .rows (F (stepped (bitAt a b) p.1))] []]) fun p =>
  [.fork [.dy, .cell (.bool (bitAt a b p.1.toNat)), .fork [.dy, .rows (F (turned (bitAt a b) (p.1 - 1))), .nw] []] [.br false]]]

noncomputable def rnextCs : List (FuncId × Sx.Spec) := [(24, genSpec [none] bitsF), (25, genSpec [pBool] wordsF)]

theorem anext_run (a b : BitVec 64) (r : AV) : run nextCs Try.prog 32 [.agg [.w64 a, .w64 b]] [] [] (yields (.v r)) =
    (BitVec.toNat (BitVec.ofInt (64 : Nat) (0 : Int)) ≤ (1 : Nat) ∧ BitVec.toNat (BitVec.ofNat (64 : Nat) ((BitVec.toNat b + BitVec.toNat (BitVec.ofInt (64 : Nat) (1 : Int)) + BitVec.toNat (BitVec.ofInt (64 : Nat) (0 : Int))) / (2 : Nat) ^ (64 : Nat))) ≤ (1 : Nat) ∧ Go.Sx.AV.agg (List.map Go.Sx.canon1 (List.take (2 : Nat) (List.drop (0 : Nat) [Go.Sx.AV.w64 (BitVec.ofNat (64 : Nat) (BitVec.toNat a + BitVec.toNat (BitVec.ofInt (64 : Nat) (0 : Int)) + BitVec.toNat (BitVec.ofNat (64 : Nat) ((BitVec.toNat b + BitVec.toNat (BitVec.ofInt (64 : Nat) (1 : Int)) + BitVec.toNat (BitVec.ofInt (64 : Nat) (0 : Int))) / (2 : Nat) ^ (64 : Nat))))), Go.Sx.AV.w64 (BitVec.ofNat (64 : Nat) (BitVec.toNat b + BitVec.toNat (BitVec.ofInt (64 : Nat) (1 : Int)) + BitVec.toNat (BitVec.ofInt (64 : Nat) (0 : Int))))]))) = r) := by kernel_rfl

theorem next_run (F : List Bool → List AV) (a b : BitVec 64) (r : AV) : run rnextCs Try.prog 33 [.agg [.w64 a, .w64 b]] [] (nextH F a b) (yields (.v r)) =
    ((Go.Sx.St.mk [Go.Sx.AV.any, Go.Sx.AV.any, Go.Sx.AV.ptr ((0 : Nat) + (1 : Nat)) (0 : Nat) (0 : Nat) Bool.true, Go.Sx.AV.slice ((0 : Nat) + (1 : Nat) + (1 : Nat)) (0 : Nat) (List.length (Go.Proofs.Ytbbiehgdkfgngaa.L1.bitsOf a b)) Bool.false, Go.Sx.AV.int Go.IntKind.i64 (127 : Int), Go.Sx.AV.any, Go.Sx.AV.any, Go.Sx.AV.any, Go.Sx.AV.any, Go.Sx.AV.any, Go.Sx.AV.any, Go.Sx.AV.any, Go.Sx.AV.any, Go.Sx.AV.any, Go.Sx.AV.any, Go.Sx.AV.any, Go.Sx.AV.any, Go.Sx.AV.any, Go.Sx.AV.any, Go.Sx.AV.any, Go.Sx.AV.any, Go.Sx.AV.any, Go.Sx.AV.any, Go.Sx.AV.any, Go.Sx.AV.any, Go.Sx.AV.any, Go.Sx.AV.any] [Option.none, Option.some (Go.Sx.Blk.mk Bool.true (23 : Nat) (2 : Nat) Bool.true [Go.Sx.AV.agg (List.map Go.Sx.AV.lit [Go.Value.int Go.IntKind.u64 (0 : Int), Go.Value.int Go.IntKind.u64 (0 : Int)])]), Option.some (Go.Sx.Blk.mk Bool.true (4 : Go.TypeId) (1 : Nat) Bool.true (Go.Proofs.Ytbbiehgdkfgngaa.L1.bitsOf a b))] = Go.Proofs.Ytbbiehgdkfgngaa.L1.nextSt F ((127 : Int), Go.Proofs.Ytbbiehgdkfgngaa.L1.turned (Go.Sx.M.bitAt a b) (127 : Int)) ∧ Go.Proofs.Ytbbiehgdkfgngaa.L1.nextI a b ((127 : Int), Go.Proofs.Ytbbiehgdkfgngaa.L1.turned (Go.Sx.M.bitAt a b) (127 : Int))) ∧ ∀ (p : Int × List Bool), Go.Proofs.Ytbbiehgdkfgngaa.L1.nextI a b p → (Decidable.decide (Prod.fst p ≥ (0 : Int)) = Bool.true → ((0 : Int) ≤ p.1 ∧ p.1 < (↑(128 : Nat) : Int)) ∧ Go.Sx.Blk.read Go.Proofs.Try.prog (Go.Sx.Blk.mk Bool.true (4 : Go.TypeId) (1 : Nat) Bool.true (F p.2)) (4 : Nat) ((0 : Nat) + Int.toNat p.1) (0 : Nat) = Option.some (Go.Sx.AV.bool (Go.Sx.M.bitAt a b (Int.toNat p.1))) ∧ (Go.Sx.M.bitAt a b (Int.toNat (Prod.fst p)) = Bool.true → ((0 : Int) ≤ p.1 ∧ p.1 < (↑(128 : Nat) : Int)) ∧ Go.Sx.Blk.fits (Go.Sx.Blk.mk Bool.true (4 : Go.TypeId) (1 : Nat) Bool.true (F p.2)) ((0 : Nat) + Int.toNat p.1) (0 : Nat) (Go.Sx.AV.bool Bool.false) = Bool.true ∧ Go.Sx.Blk.writes (Go.Sx.Blk.mk Bool.true (4 : Go.TypeId) (1 : Nat) Bool.true (F p.2)) ((0 : Nat) + Int.toNat p.1) (0 : Nat) (Go.Sx.AV.bool Bool.false) (F (Go.Proofs.Ytbbiehgdkfgngaa.L1.turned (Go.Sx.M.bitAt a b) (p.1 - (1 : Int)))) ∧ Go.Sx.inRange Go.IntKind.i64 (p.1 - (1 : Int)) ∧ ∃ (p' : Int × List Bool), Go.Sx.St.mk [Go.Sx.AV.any, Go.Sx.AV.any, Go.Sx.AV.ptr ((0 : Nat) + (1 : Nat)) (0 : Nat) (0 : Nat) Bool.true, Go.Sx.AV.slice ((0 : Nat) + (1 : Nat) + (1 : Nat)) (0 : Nat) (128 : Nat) Bool.false, Go.Sx.AV.int Go.IntKind.i64 (p.1 - (1 : Int)), Go.Sx.AV.any, Go.Sx.AV.any, Go.Sx.AV.any, Go.Sx.AV.any, Go.Sx.AV.any, Go.Sx.AV.any, Go.Sx.AV.any, Go.Sx.AV.any, Go.Sx.AV.any, Go.Sx.AV.any, Go.Sx.AV.any, Go.Sx.AV.any, Go.Sx.AV.any, Go.Sx.AV.any, Go.Sx.AV.any, Go.Sx.AV.any, Go.Sx.AV.any, Go.Sx.AV.any, Go.Sx.AV.any, Go.Sx.AV.any, Go.Sx.AV.any, Go.Sx.AV.any] [Option.none, Option.some (Go.Sx.Blk.mk Bool.true (23 : Go.TypeId) (2 : Nat) Bool.true [Go.Sx.AV.agg [Go.Sx.AV.lit (Go.Value.int Go.IntKind.u64 (0 : Int)), Go.Sx.AV.lit (Go.Value.int Go.IntKind.u64 (0 : Int))]]), Option.some (Go.Sx.Blk.mk Bool.true (nat_lit 4) (1 : Nat) Bool.true (F (Go.Proofs.Ytbbiehgdkfgngaa.L1.turned (Go.Sx.M.bitAt a b) (p.1 - (1 : Int)))))] = Go.Proofs.Ytbbiehgdkfgngaa.L1.nextSt F p' ∧ Go.Proofs.Ytbbiehgdkfgngaa.L1.nextI a b p' ∧ Int.toNat (p'.1 + (1 : Int)) < Int.toNat (p.1 + (1 : Int))) ∧ (Go.Sx.M.bitAt a b (Int.toNat (Prod.fst p)) = Bool.false → (Decidable.decide (Prod.fst p ≥ (0 : Int)) = Bool.true → ((0 : Int) ≤ p.1 ∧ p.1 < (↑(128 : Nat) : Int)) ∧ Go.Sx.Blk.fits (Go.Sx.Blk.mk Bool.true (4 : Go.TypeId) (1 : Nat) Bool.true (F p.2)) ((0 : Nat) + Int.toNat p.1) (0 : Nat) (Go.Sx.AV.bool Bool.true) = Bool.true ∧ Go.Sx.Blk.writes (Go.Sx.Blk.mk Bool.true (4 : Go.TypeId) (1 : Nat) Bool.true (F p.2)) ((0 : Nat) + Int.toNat p.1) (0 : Nat) (Go.Sx.AV.bool Bool.true) (F (Go.Proofs.Ytbbiehgdkfgngaa.L1.stepped (Go.Sx.M.bitAt a b) p.1)) ∧ (0 : Nat) + (128 : Nat) ≤ List.length (F (Go.Proofs.Ytbbiehgdkfgngaa.L1.stepped (Go.Sx.M.bitAt a b) p.1)) ∧ ∃ (l : List Bool), List.take (128 : Nat) (List.drop (0 : Nat) (F (Go.Proofs.Ytbbiehgdkfgngaa.L1.stepped (Go.Sx.M.bitAt a b) p.1))) = List.map Go.Sx.AV.bool l ∧ List.length l = (128 : Nat) ∧ Go.Sx.AV.agg (List.map Go.Sx.canon1 (List.take (2 : Nat) (List.drop (0 : Nat) [Go.Sx.AV.w64 (Go.Proofs.Ytbbiehgdkfgngaa.L1.wd l (0 : Nat) (64 : Nat)), Go.Sx.AV.w64 (Go.Proofs.Ytbbiehgdkfgngaa.L1.wd l (64 : Nat) (64 : Nat))]))) = r) ∧ (Decidable.decide (Prod.fst p ≥ (0 : Int)) = Bool.false → (0 : Nat) + (128 : Nat) ≤ List.length (F p.2) ∧ ∃ (l : List Bool), List.take (128 : Nat) (List.drop (0 : Nat) (F p.2)) = List.map Go.Sx.AV.bool l ∧ List.length l = (128 : Nat) ∧ Go.Sx.AV.agg (List.map Go.Sx.canon1 (List.take (2 : Nat) (List.drop (0 : Nat) [Go.Sx.AV.w64 (Go.Proofs.Ytbbiehgdkfgngaa.L1.wd l (0 : Nat) (64 : Nat)), Go.Sx.AV.w64 (Go.Proofs.Ytbbiehgdkfgngaa.L1.wd l (64 : Nat) (64 : Nat))]))) = r))) ∧ (Decidable.decide (Prod.fst p ≥ (0 : Int)) = Bool.false → (Decidable.decide (Prod.fst p ≥ (0 : Int)) = Bool.true → ((0 : Int) ≤ p.1 ∧ p.1 < (↑(128 : Nat) : Int)) ∧ Go.Sx.Blk.fits (Go.Sx.Blk.mk Bool.true (4 : Go.TypeId) (1 : Nat) Bool.true (F p.2)) ((0 : Nat) + Int.toNat p.1) (0 : Nat) (Go.Sx.AV.bool Bool.true) = Bool.true ∧ Go.Sx.Blk.writes (Go.Sx.Blk.mk Bool.true (4 : Go.TypeId) (1 : Nat) Bool.true (F p.2)) ((0 : Nat) + Int.toNat p.1) (0 : Nat) (Go.Sx.AV.bool Bool.true) (F (Go.Proofs.Ytbbiehgdkfgngaa.L1.stepped (Go.Sx.M.bitAt a b) p.1)) ∧ (0 : Nat) + (128 : Nat) ≤ List.length (F (Go.Proofs.Ytbbiehgdkfgngaa.L1.stepped (Go.Sx.M.bitAt a b) p.1)) ∧ ∃ (l : List Bool), List.take (128 : Nat) (List.drop (0 : Nat) (F (Go.Proofs.Ytbbiehgdkfgngaa.L1.stepped (Go.Sx.M.bitAt a b) p.1))) = List.map Go.Sx.AV.bool l ∧ List.length l = (128 : Nat) ∧ Go.Sx.AV.agg (List.map Go.Sx.canon1 (List.take (2 : Nat) (List.drop (0 : Nat) [Go.Sx.AV.w64 (Go.Proofs.Ytbbiehgdkfgngaa.L1.wd l (0 : Nat) (64 : Nat)), Go.Sx.AV.w64 (Go.Proofs.Ytbbiehgdkfgngaa.L1.wd l (64 : Nat) (64 : Nat))]))) = r) ∧ (Decidable.decide (Prod.fst p ≥ (0 : Int)) = Bool.false → (0 : Nat) + (128 : Nat) ≤ List.length (F p.2) ∧ ∃ (l : List Bool), List.take (128 : Nat) (List.drop (0 : Nat) (F p.2)) = List.map Go.Sx.AV.bool l ∧ List.length l = (128 : Nat) ∧ Go.Sx.AV.agg (List.map Go.Sx.canon1 (List.take (2 : Nat) (List.drop (0 : Nat) [Go.Sx.AV.w64 (Go.Proofs.Ytbbiehgdkfgngaa.L1.wd l (0 : Nat) (64 : Nat)), Go.Sx.AV.w64 (Go.Proofs.Ytbbiehgdkfgngaa.L1.wd l (64 : Nat) (64 : Nat))]))) = r))) := by kernel_rfl

def nextF : List Arg → (Res → Prop) → Prop
  | [.v (.agg [.w64 a, .w64 b])], R => R (.v (.agg [.w64 (hiN (V a b + 1)), .w64 (loN (V a b + 1))]))
  | _, _ => False

theorem nextCs_ok : ∀ e ∈ nextCs, SpecOK Try.prog e.1 e.2 := by
  intro e he
  simp only [nextCs, List.mem_cons, List.not_mem_nil, or_false] at he
  rcases he with rfl
  exact add64_ok

theorem rnextCs_ok : ∀ e ∈ rnextCs, SpecOK Try.prog e.1 e.2 := by
  intro e he
  simp only [rnextCs, List.mem_cons, List.not_mem_nil, or_false] at he
  rcases he with rfl | rfl
  · exact bits_ok
  · exact words_ok

theorem anext_ok : SpecOK Try.prog 32 (genSpec [none] nextF) := by
  refine genSpec_ok (run_ok (l := nextCs) nextCs_ok mixed noNG) fun l R hF => ?_
  unfold nextF at hF
  split at hF
  · rename_i a b
    refine ⟨_, hF, rfl, [], ?_⟩
    show run nextCs Try.prog _ [.agg [.w64 a, .w64 b]] [] _ _
    rw [anext_run]
    have ha := a.isLt
    have hb := b.isLt
    have z0 : (BitVec.ofInt 64 0).toNat = 0 := rfl
    have z1 : (BitVec.ofInt 64 1).toNat = 1 := rfl
    simp only [z0, z1]
    refine ⟨by omega, by rw [BitVec.toNat_ofNat]; omega, ?_⟩
    have e1 : BitVec.ofNat 64 (a.toNat + 0 + (BitVec.ofNat 64 ((b.toNat + 1 + 0) / 2 ^ 64)).toNat) = hiN (V a b + 1) := by
      apply BitVec.eq_of_toNat_eq
      unfold hiN V
      rw [BitVec.toNat_ofNat, BitVec.toNat_ofNat, BitVec.toNat_ofNat]
      omega
    have e2 : BitVec.ofNat 64 (b.toNat + 1 + 0) = loN (V a b + 1) := by
      apply BitVec.eq_of_toNat_eq
      unfold loN V
      rw [BitVec.toNat_ofNat, BitVec.toNat_ofNat]
      omega
    rw [e1, e2]
    rfl
  · exact hF.elim

theorem fits_map {f : Nat → Bool} {k : Int} {v w : Bool} (h0 : 0 ≤ k) (hk : k < 128) : (Blk.mk w 4 1 true (((List.range 128).map f).map .bool)).fits (0 + k.toNat) 0 (.bool v) = true := by
  unfold Blk.fits
  rw [Nat.zero_add, List.getElem?_map, List.getElem?_map, List.getElem?_range (by omega)]
  rfl

theorem writes_map {f g : Nat → Bool} {k : Int} {v w : Bool} (h0 : 0 ≤ k) (hk : k < 128) (h : ∀ m : Nat, m < 128 → g m = if k = (m : Int) then v else f m) : (Blk.mk w 4 1 true (((List.range 128).map f).map .bool)).writes (0 + k.toNat) 0 (.bool v) (((List.range 128).map g).map .bool) := by
  unfold Blk.writes Blk.write
  dsimp only
  rw [Nat.zero_add]
  have e : (((List.range 128).map f).map AV.bool)[k.toNat]? = some (.bool (f k.toNat)) := by
    rw [List.getElem?_map, List.getElem?_map, List.getElem?_range (by omega)]; rfl
  rw [e]
  apply List.ext_getElem?
  intro i
  by_cases hi : i < 128
  · rw [List.getElem?_set, List.getElem?_map, List.getElem?_map, List.getElem?_map, List.getElem?_map, List.getElem?_range hi]
    simp only [Option.map_some, List.length_map, List.length_range]
    by_cases hk' : k.toNat = i
    · rw [if_pos hk', if_pos (by omega), h i hi, if_pos (by omega)]; rfl
    · rw [if_neg hk', h i hi, if_neg (by omega)]
  · rw [List.getElem?_eq_none (by simp; omega), List.getElem?_eq_none (by simp; omega)]

theorem next_ok : SpecOK Try.prog 33 (genSpec [none] nextF) := by
  refine genSpec_ok (run_ok (l := rnextCs) rnextCs_ok mixed noNG) fun l R hF => ?_
  unfold nextF at hF
  split at hF
  · rename_i a b
    refine ⟨_, hF, rfl, nextH (List.map .bool) a b, ?_⟩
    show run rnextCs Try.prog _ [.agg [.w64 a, .w64 b]] [] _ _
    rw [next_run]
    have t0 : turned (bitAt a b) 127 = (List.range 128).map (bitAt a b) := by
      unfold turned
      refine List.map_congr_left fun i hi => ?_
      rw [if_neg (by simp at hi; omega)]
    have row0 : (turned (bitAt a b) 127).map AV.bool = bitsOf a b := by rw [t0, List.map_map]; rfl
    refine ⟨⟨?_, ⟨by simp only; omega, by simp only; omega, rfl, fun i h1 h2 => by simp only at h1; omega⟩⟩, ?_⟩
    · unfold nextSt
      rw [row0]
      rfl
    rintro ⟨k, l⟩ ⟨h1, h2, h3, h4⟩
    simp only at h1 h2 h3 h4
    subst h3
    have last : ∀ g : Nat → Bool, (∀ m, m < 128 → g m = bitAt (hiN (V a b + 1)) (loN (V a b + 1)) m) → 0 + 128 ≤ (((List.range 128).map g).map AV.bool).length ∧ ∃ l : List Bool, List.take 128 (List.drop 0 (((List.range 128).map g).map AV.bool)) = l.map AV.bool ∧ l.length = 128 ∧
        AV.agg (List.map canon1 (List.take 2 (List.drop 0 [AV.w64 (wd l 0 64), AV.w64 (wd l 64 64)]))) = AV.agg [.w64 (hiN (V a b + 1)), .w64 (loN (V a b + 1))] := by
      intro g hg
      obtain ⟨e1, e2⟩ := wd_bits g _ _ hg
      refine ⟨by simp, (List.range 128).map g, by rw [List.drop_zero, List.take_of_length_le (by simp)], by simp, ?_⟩
      rw [e1, e2]; rfl
    have fin : 0 ≤ k → bitAt a b k.toNat = false → _ := fun h0 hb => last (fun m => if k < (m : Int) then false else if k = (m : Int) then true else bitAt a b m) fun m hm => next_bits h0 (by omega) hb h4 hm
    have all : k < 0 → _ := fun h0 => last (fun m => if k < (m : Int) then false else bitAt a b m) fun m hm => by
      rw [if_pos (by omega)]; exact next_all (fun i hi => h4 i (by omega) hi) hm
    have st : 0 ≤ k → (Blk.mk true 4 1 true ((turned (bitAt a b) k).map .bool)).fits (0 + k.toNat) 0 (.bool true) = true ∧ (Blk.mk true 4 1 true ((turned (bitAt a b) k).map .bool)).writes (0 + k.toNat) 0 (.bool true) ((stepped (bitAt a b) k).map .bool) := fun h0 =>
      ⟨fits_map h0 (by omega), writes_map h0 (by omega) fun m hm => by
        by_cases hkm : k = (m : Int)
        · rw [if_pos hkm, if_neg (by omega), if_pos hkm]
        · rw [if_neg hkm, if_neg hkm]⟩
    refine ⟨fun hge => ?_, fun hlt => ?_⟩
    · have h0 : 0 ≤ k := by simpa using hge
      have hr : (Blk.mk true 4 1 true ((turned (bitAt a b) k).map .bool)).read Try.prog 4 (0 + k.toNat) 0 = some (.bool (bitAt a b k.toNat)) := by
        refine read1 ?_ (by kernel_rfl)
        unfold turned
        rw [List.getElem?_map, List.getElem?_map, List.getElem?_range (by omega)]
        simp only [Option.map_some]
        rw [if_neg (by omega)]
      refine ⟨⟨h0, by simp only; omega⟩, hr, fun hb => ⟨⟨h0, by simp only; omega⟩, fits_map (f := fun i => if k < (i : Int) then false else bitAt a b i) h0 (by omega), ?_, inR (by simp only; omega) (by simp only; omega), (k - 1, turned (bitAt a b) (k - 1)), rfl, ⟨by simp only; omega, by simp only; omega, rfl, ?_⟩, by simp only; omega⟩, fun hb => ⟨fun _ => ⟨⟨h0, by simp only; omega⟩, (st h0).1, (st h0).2, fin h0 hb⟩, fun hlt => ?_⟩⟩
      · refine writes_map (f := fun i => if k < (i : Int) then false else bitAt a b i) (g := fun i => if k - 1 < (i : Int) then false else bitAt a b i) h0 (by omega) fun m hm => ?_
        by_cases hkm : k = (m : Int)
        · rw [if_pos hkm, if_pos (by omega)]
        · rw [if_neg hkm]
          by_cases hlt : k < (m : Int)
          · rw [if_pos (by omega), if_pos hlt]
          · rw [if_neg (by omega), if_neg hlt]
      · intro i hi hi2
        simp only at hi
        rcases Int.lt_or_eq_of_le (show k ≤ (i : Int) from by omega) with h | h
        · exact h4 i h hi2
        · have : i = k.toNat := by omega
          rw [this]; exact hb
      · exact absurd h0 (by simpa using hlt)
    · have h0 : k < 0 := by simpa using hlt
      exact ⟨fun h => absurd h0 (by simpa using h), fun _ => all h0⟩
  · exact hF.elim

end Go.Proofs.Ytbbiehgdkfgngaa.L1
