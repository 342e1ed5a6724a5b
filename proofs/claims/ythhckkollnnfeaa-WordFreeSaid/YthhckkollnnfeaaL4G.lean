/-
  Layer 4: contracts of the program's and the document's Some.
-/
import Derived.Test.YthhckkollnnfeaaL4A
import Derived.Test.YthhckkollnnfeaaM10
namespace Go.Proofs.Ythhckkollnnfeaa.L1
open Go.Sx Go.Sx.M

/-- What is kept while the bits are gone through: the number of the bit, what is left of the number, the address. -/
structure SomeP where
  k : Int
  l : BitVec 64
  a : BitVec 64
  b : BitVec 64

def wsSt (v w m n : BitVec 64) (p : SomeP) : St :=
  ⟨[.any, .any, .ptr 0 0 0 true, .any, .ptr 1 0 0 true, .ptr 2 0 0 true, .w64 p.l, .int .i64 p.k, .any, .any, .any, .any, .any, .any, .any, .any, .any, .any, .any, .any, .any, .any, .any, .any, .any, .any, .any, .any, .any, .any, .any, .any, .any, .any, .any],
   [some ⟨true, 26, 4, true, [.agg [.w64 v, .w64 w, .w64 m, .w64 n]]⟩, some ⟨true, 24, 2, true, [.agg [.lit (.int .u64 0), .lit (.int .u64 0)]]⟩, some ⟨true, 24, 2, true, [.agg [.w64 p.a, .w64 p.b]]⟩]⟩
def wsM0 : Modes := ⟨[0, 0, 1, 0, 1, 1, 1, 2, 0, 0, 0, 0, 0, 0, 0, 0, 0, 0, 0, 0, 0, 0, 0, 0, 0, 0, 0, 0, 0, 0, 0, 0, 0, 0, 0], [], [], [], []⟩
def wsM : Modes := ⟨[0, 0, 1, 0, 1, 1, 1, 1, 0, 0, 0, 0, 0, 0, 0, 0, 0, 0, 0, 0, 0, 0, 0, 0, 0, 0, 0, 0, 0, 0, 0, 0, 0, 0, 0], [], [], [], []⟩
def wsI (v w m n X : BitVec 64) (p : SomeP) : Prop := -1 ≤ p.k ∧ p.k ≤ 127 ∧ (0 ≤ p.k → p.l.toNat = X.toNat / 2 ^ fr m n p.k.toNat) ∧
  ∀ i : Nat, i < 128 → bitAt p.a p.b i = if (i : Int) ≤ p.k then (bitAt v w i && bitAt m n i) else smB v w m n X i
def wsH (v w m n X : BitVec 64) : List Hint := [.linv _ ⟨127, X, v &&& m, w &&& n⟩ (wsSt v w m n) (wsI v w m n X) (fun p => (p.k + 1).toNat) wsM0 wsM wsM (fun _ => []) fun _ =>
  [.fork [.fork [.fork [.nw] [.nw]] []] []]]

structure RefP where
  k : Int
  l : BitVec 64

def rsL (v w m n X : BitVec 64) (k : Int) : List Bool := (List.range 128).map fun (i : Nat) => if (i : Int) ≤ k then bitAt v w i else smB v w m n X i
def rsSt (F : List Bool → List AV) (v w m n X : BitVec 64) (p : RefP) : St :=
  ⟨[.any, .any, .any, .any, .ptr 0 0 0 true, .slice 1 0 128 false, .slice 2 0 128 false, .w64 p.l, .int .i64 p.k, .any, .any, .any, .any, .any, .any, .any, .any, .any, .any, .any, .any, .any, .any, .any, .any, .any, .any, .any, .any, .any, .any, .any, .any, .any, .any, .any],
   [some ⟨true, 23, 2, true, [.agg [.lit (.int .u64 0), .lit (.int .u64 0)]]⟩, some ⟨true, 4, 1, true, F (rsL v w m n X p.k)⟩, some ⟨true, 4, 1, true, bitsOf m n⟩]⟩
def rsM0 : Modes := ⟨[0, 0, 0, 0, 1, 1, 1, 1, 2, 0, 0, 0, 0, 0, 0, 0, 0, 0, 0, 0, 0, 0, 0, 0, 0, 0, 0, 0, 0, 0, 0, 0, 0, 0, 0, 0], [], [], [], []⟩
def rsM : Modes := ⟨[0, 0, 0, 0, 1, 1, 1, 1, 1, 0, 0, 0, 0, 0, 0, 0, 0, 0, 0, 0, 0, 0, 0, 0, 0, 0, 0, 0, 0, 0, 0, 0, 0, 0, 0, 0], [], [], [], []⟩
def rsI (m n X : BitVec 64) (p : RefP) : Prop := -1 ≤ p.k ∧ p.k ≤ 127 ∧ (0 ≤ p.k → p.l.toNat = X.toNat / 2 ^ fr m n p.k.toNat)
def rsH (F : List Bool → List AV) (v w m n X : BitVec 64) : List Hint := [.linv _ ⟨127, X⟩ (rsSt F v w m n X) (rsI m n X) (fun p => (p.k + 1).toNat) rsM0 rsM rsM (fun _ => []) fun p =>
  [.fork [.dy, .cell (.bool (bitAt m n p.k.toNat)), .fork [.dy, .rows (F (rsL v w m n X (p.k - 1))), .nw] [.nw]] []]]

theorem bitAt_putW (a b : BitVec 64) (k : Int) (c : Bool) {i : Nat} (hi : i < 128) : bitAt (put a k c) (put b (k - 64) c) i = if (i : Int) = k then c else bitAt a b i := by
  unfold bitAt
  split
  · rw [put_get (by omega)]
  · rw [put_get (by omega)]
    by_cases h : (i : Int) = k
    · rw [if_pos h, if_pos (by omega)]
    · rw [if_neg h, if_neg (by omega)]

theorem bitZ_in {a b : BitVec 64} {k : Int} (h0 : 0 ≤ k) (h1 : k < 128) : bitZ a b k = bitAt a b k.toNat := by
  unfold bitZ
  rw [decide_eq_true ⟨h0, h1⟩, Bool.true_and]

theorem fr_down {m n : BitVec 64} {k : Int} (h0 : 0 ≤ k - 1) (h1 : k ≤ 127) : fr m n (k - 1).toNat = fr m n k.toNat + (if bitAt m n k.toNat then 0 else 1) := by
  rw [fr_step (k := (k - 1).toNat) (by omega), show (k - 1).toNat + 1 = k.toNat from by omega]

def wsomeF : List Arg → (Res → Prop) → Prop
  | [.v (.agg [.w64 v, .w64 w, .w64 m, .w64 n]), .v (.int .i64 x)], R => R (.v (.agg [.w64 (smW v w m n (BitVec.ofInt 64 x) 0), .w64 (smW v w m n (BitVec.ofInt 64 x) 64)]))
  | _, _ => False

noncomputable def wsomeCs : List (FuncId × Sx.Spec) := [(32, genSpec [none, none] bitF),
  (31, genSpec [none, none, none] withF)]

theorem wsome_run (v w m n : BitVec 64) (x : Int) (r : AV) : run wsomeCs Try.prog 29 [.agg [.w64 v, .w64 w, .w64 m, .w64 n], .int .i64 x] [] (wsH v w m n (BitVec.ofInt 64 x)) (yields (.v r)) =
    ((Go.Sx.St.mk [Go.Sx.AV.any, Go.Sx.AV.any, Go.Sx.AV.ptr (0 : Nat) (0 : Nat) (0 : Nat) Bool.true, Go.Sx.AV.any, Go.Sx.AV.ptr ((0 : Nat) + (1 : Nat)) (0 : Nat) (0 : Nat) Bool.true, Go.Sx.AV.ptr ((0 : Nat) + (1 : Nat) + (1 : Nat)) (0 : Nat) (0 : Nat) Bool.true, Go.Sx.AV.w64 (BitVec.ofInt (64 : Nat) x), Go.Sx.AV.int Go.IntKind.i64 (127 : Int), Go.Sx.AV.any, Go.Sx.AV.any, Go.Sx.AV.any, Go.Sx.AV.any, Go.Sx.AV.any, Go.Sx.AV.any, Go.Sx.AV.any, Go.Sx.AV.any, Go.Sx.AV.any, Go.Sx.AV.any, Go.Sx.AV.any, Go.Sx.AV.any, Go.Sx.AV.any, Go.Sx.AV.any, Go.Sx.AV.any, Go.Sx.AV.any, Go.Sx.AV.any, Go.Sx.AV.any, Go.Sx.AV.any, Go.Sx.AV.any, Go.Sx.AV.any, Go.Sx.AV.any, Go.Sx.AV.any, Go.Sx.AV.any, Go.Sx.AV.any, Go.Sx.AV.any, Go.Sx.AV.any] [Option.some (Go.Sx.Blk.mk Bool.true (26 : Nat) (4 : Nat) Bool.true [Go.Sx.AV.agg [Go.Sx.AV.w64 v, Go.Sx.AV.w64 w, Go.Sx.AV.w64 m, Go.Sx.AV.w64 n]]), Option.some (Go.Sx.Blk.mk Bool.true (24 : Nat) (2 : Nat) Bool.true [Go.Sx.AV.agg [Go.Sx.AV.lit (Go.Value.int Go.IntKind.u64 (0 : Int)), Go.Sx.AV.lit (Go.Value.int Go.IntKind.u64 (0 : Int))]]), Option.some (Go.Sx.Blk.write (Go.Sx.Blk.mk Bool.true (24 : Nat) (2 : Nat) Bool.true [Go.Sx.AV.agg [Go.Sx.AV.lit (Go.Value.int Go.IntKind.u64 (0 : Int)), Go.Sx.AV.lit (Go.Value.int Go.IntKind.u64 (0 : Int))]]) (0 : Nat) (0 : Nat) (Go.Sx.AV.agg [Go.Sx.AV.w64 (v &&& m), Go.Sx.AV.w64 (w &&& n)]))] = Go.Proofs.Ythhckkollnnfeaa.L1.wsSt v w m n (Go.Proofs.Ythhckkollnnfeaa.L1.SomeP.mk (127 : Int) (BitVec.ofInt (64 : Nat) x) (v &&& m) (w &&& n)) ∧ Go.Proofs.Ythhckkollnnfeaa.L1.wsI v w m n (BitVec.ofInt (64 : Nat) x) (Go.Proofs.Ythhckkollnnfeaa.L1.SomeP.mk (127 : Int) (BitVec.ofInt (64 : Nat) x) (v &&& m) (w &&& n))) ∧ ∀ (p : Go.Proofs.Ythhckkollnnfeaa.L1.SomeP), Go.Proofs.Ythhckkollnnfeaa.L1.wsI v w m n (BitVec.ofInt (64 : Nat) x) p → (Decidable.decide (Go.Proofs.Ythhckkollnnfeaa.L1.SomeP.k p ≥ (0 : Int)) = Bool.true → ((Go.Proofs.Ythhckkollnnfeaa.L1.SomeP.l p != BitVec.ofInt (64 : Nat) (0 : Int)) = Bool.true → ((!Go.Sx.M.bitZ m n (Go.Proofs.Ythhckkollnnfeaa.L1.SomeP.k p)) = Bool.true → Go.Sx.inRange Go.IntKind.i64 (p.1 - (1 : Int)) ∧ ∃ (p' : Go.Proofs.Ythhckkollnnfeaa.L1.SomeP), Go.Sx.St.mk [Go.Sx.AV.any, Go.Sx.AV.any, Go.Sx.AV.ptr (0 : Nat) (0 : Nat) (0 : Nat) Bool.true, Go.Sx.AV.any, Go.Sx.AV.ptr ((0 : Nat) + (1 : Nat)) (0 : Nat) (0 : Nat) Bool.true, Go.Sx.AV.ptr ((0 : Nat) + (1 : Nat) + (1 : Nat)) (0 : Nat) (0 : Nat) Bool.true, Go.Sx.AV.w64 (p.2 >>> Int.toNat (1 : Int)), Go.Sx.AV.int Go.IntKind.i64 (p.1 - (1 : Int)), Go.Sx.AV.any, Go.Sx.AV.any, Go.Sx.AV.any, Go.Sx.AV.any, Go.Sx.AV.any, Go.Sx.AV.any, Go.Sx.AV.any, Go.Sx.AV.any, Go.Sx.AV.any, Go.Sx.AV.any, Go.Sx.AV.any, Go.Sx.AV.any, Go.Sx.AV.any, Go.Sx.AV.any, Go.Sx.AV.any, Go.Sx.AV.any, Go.Sx.AV.any, Go.Sx.AV.any, Go.Sx.AV.any, Go.Sx.AV.any, Go.Sx.AV.any, Go.Sx.AV.any, Go.Sx.AV.any, Go.Sx.AV.any, Go.Sx.AV.any, Go.Sx.AV.any, Go.Sx.AV.any] [Option.some (Go.Sx.Blk.mk Bool.true (26 : Go.TypeId) (4 : Nat) Bool.true [Go.Sx.AV.agg [Go.Sx.AV.w64 v, Go.Sx.AV.w64 w, Go.Sx.AV.w64 m, Go.Sx.AV.w64 n]]), Option.some (Go.Sx.Blk.mk Bool.true (24 : Go.TypeId) (2 : Nat) Bool.true [Go.Sx.AV.agg [Go.Sx.AV.lit (Go.Value.int Go.IntKind.u64 (0 : Int)), Go.Sx.AV.lit (Go.Value.int Go.IntKind.u64 (0 : Int))]]), Option.some (Go.Sx.Blk.write (Go.Sx.Blk.mk Bool.true (24 : Go.TypeId) (2 : Nat) Bool.true [Go.Sx.AV.agg [Go.Sx.AV.w64 p.3, Go.Sx.AV.w64 p.4]]) (0 : Nat) (0 : Nat) (Go.Sx.AV.agg [Go.Sx.AV.w64 (Go.Sx.M.put p.3 p.1 (p.2 &&& BitVec.ofInt (64 : Nat) (1 : Int) == BitVec.ofInt (64 : Nat) (1 : Int))), Go.Sx.AV.w64 (Go.Sx.M.put p.4 (p.1 - (64 : Int)) (p.2 &&& BitVec.ofInt (64 : Nat) (1 : Int) == BitVec.ofInt (64 : Nat) (1 : Int)))]))] = Go.Proofs.Ythhckkollnnfeaa.L1.wsSt v w m n p' ∧ Go.Proofs.Ythhckkollnnfeaa.L1.wsI v w m n (BitVec.ofInt (64 : Nat) x) p' ∧ Int.toNat (p'.1 + (1 : Int)) < Int.toNat (p.1 + (1 : Int))) ∧ ((!Go.Sx.M.bitZ m n (Go.Proofs.Ythhckkollnnfeaa.L1.SomeP.k p)) = Bool.false → Go.Sx.inRange Go.IntKind.i64 (p.1 - (1 : Int)) ∧ ∃ (p' : Go.Proofs.Ythhckkollnnfeaa.L1.SomeP), Go.Sx.St.mk [Go.Sx.AV.any, Go.Sx.AV.any, Go.Sx.AV.ptr (0 : Nat) (0 : Nat) (0 : Nat) Bool.true, Go.Sx.AV.any, Go.Sx.AV.ptr ((0 : Nat) + (1 : Nat)) (0 : Nat) (0 : Nat) Bool.true, Go.Sx.AV.ptr ((0 : Nat) + (1 : Nat) + (1 : Nat)) (0 : Nat) (0 : Nat) Bool.true, Go.Sx.AV.w64 p.2, Go.Sx.AV.int Go.IntKind.i64 (p.1 - (1 : Int)), Go.Sx.AV.any, Go.Sx.AV.any, Go.Sx.AV.any, Go.Sx.AV.any, Go.Sx.AV.any, Go.Sx.AV.any, Go.Sx.AV.any, Go.Sx.AV.any, Go.Sx.AV.any, Go.Sx.AV.any, Go.Sx.AV.any, Go.Sx.AV.any, Go.Sx.AV.any, Go.Sx.AV.any, Go.Sx.AV.any, Go.Sx.AV.any, Go.Sx.AV.any, Go.Sx.AV.any, Go.Sx.AV.any, Go.Sx.AV.any, Go.Sx.AV.any, Go.Sx.AV.any, Go.Sx.AV.any, Go.Sx.AV.any, Go.Sx.AV.any, Go.Sx.AV.any, Go.Sx.AV.any] [Option.some (Go.Sx.Blk.mk Bool.true (26 : Go.TypeId) (4 : Nat) Bool.true [Go.Sx.AV.agg [Go.Sx.AV.w64 v, Go.Sx.AV.w64 w, Go.Sx.AV.w64 m, Go.Sx.AV.w64 n]]), Option.some (Go.Sx.Blk.mk Bool.true (24 : Go.TypeId) (2 : Nat) Bool.true [Go.Sx.AV.agg [Go.Sx.AV.lit (Go.Value.int Go.IntKind.u64 (0 : Int)), Go.Sx.AV.lit (Go.Value.int Go.IntKind.u64 (0 : Int))]]), Option.some (Go.Sx.Blk.mk Bool.true (24 : Go.TypeId) (2 : Nat) Bool.true [Go.Sx.AV.agg [Go.Sx.AV.w64 p.3, Go.Sx.AV.w64 p.4]])] = Go.Proofs.Ythhckkollnnfeaa.L1.wsSt v w m n p' ∧ Go.Proofs.Ythhckkollnnfeaa.L1.wsI v w m n (BitVec.ofInt (64 : Nat) x) p' ∧ Int.toNat (p'.1 + (1 : Int)) < Int.toNat (p.1 + (1 : Int)))) ∧ ((Go.Proofs.Ythhckkollnnfeaa.L1.SomeP.l p != BitVec.ofInt (64 : Nat) (0 : Int)) = Bool.false → Go.Sx.AV.agg [Go.Sx.AV.w64 p.3, Go.Sx.AV.w64 p.4] = r)) ∧ (Decidable.decide (Go.Proofs.Ythhckkollnnfeaa.L1.SomeP.k p ≥ (0 : Int)) = Bool.false → Go.Sx.AV.agg [Go.Sx.AV.w64 p.3, Go.Sx.AV.w64 p.4] = r)) := by kernel_rfl

theorem wsomeCs_ok : ∀ e ∈ wsomeCs, SpecOK Try.prog e.1 e.2 := by
  intro e he
  simp only [wsomeCs, List.mem_cons, List.not_mem_nil, or_false] at he
  rcases he with rfl | rfl
  · exact bit_ok
  · exact with_ok

theorem wsome_ok : SpecOK Try.prog 29 (genSpec [none, none] wsomeF) := by
  refine genSpec_ok (run_ok (l := wsomeCs) wsomeCs_ok mixed noNG) fun l R hF => ?_
  unfold wsomeF at hF
  split at hF
  · rename_i v w m n x
    refine ⟨_, hF, rfl, (wsH v w m n (BitVec.ofInt 64 x)), ?_⟩
    show run wsomeCs Try.prog _ [.agg [.w64 v, .w64 w, .w64 m, .w64 n], .int .i64 x] [] _ _
    rw [wsome_run]
    generalize BitVec.ofInt 64 x = X
    refine ⟨⟨rfl, by simp, by simp, fun _ => ?_, fun i hi => ?_⟩, ?_⟩
    · show X.toNat = X.toNat / 2 ^ fr m n 127
      rw [fr_last]; simp
    · rw [if_pos (by simp only; omega), bitAt_and]
    rintro ⟨k, l, a, b⟩ ⟨h1, h2, h3, h4⟩
    simp only at h1 h2 h3 h4
    refine ⟨fun hk => ⟨fun hl => ⟨fun hb => ?_, fun hb => ?_⟩, fun hl => ?_⟩, fun hk => ?_⟩
    · have hk : 0 ≤ k := by simpa using hk
      have hm : bitAt m n k.toNat = false := by rw [← bitZ_in hk (by omega)]; simpa using hb
      obtain ⟨e1, _, e3, _⟩ := half_bit l X.toNat _ (h3 hk)
      refine ⟨inR (by simp only; omega) (by simp only; omega), ⟨k - 1, l >>> Int.toNat 1, put a k (l &&& BitVec.ofInt 64 1 == BitVec.ofInt 64 1), put b (k - 64) (l &&& BitVec.ofInt 64 1 == BitVec.ofInt 64 1)⟩, rfl, ⟨by simp only; omega, by simp only; omega, fun h => ?_, fun i hi => ?_⟩, by simp only; omega⟩
      · simp only at h ⊢
        rw [fr_down h h2, hm]
        exact e3
      · simp only
        rw [bitAt_putW _ _ _ _ hi, e1, h4 i hi]
        by_cases hik : (i : Int) = k
        · have e : k.toNat = i := by omega
          rw [e] at hm
          rw [if_pos hik, if_neg (by omega), e]
          unfold smB
          rw [hm]; rfl
        · rw [if_neg hik]
          by_cases hle : (i : Int) ≤ k
          · rw [if_pos hle, if_pos (by omega)]
          · rw [if_neg hle, if_neg (by omega)]
    · have hk : 0 ≤ k := by simpa using hk
      have hm : bitAt m n k.toNat = true := by rw [← bitZ_in hk (by omega)]; simpa using hb
      refine ⟨inR (by simp only; omega) (by simp only; omega), ⟨k - 1, l, a, b⟩, rfl, ⟨by simp only; omega, by simp only; omega, fun h => ?_, fun i hi => ?_⟩, by simp only; omega⟩
      · simp only at h ⊢
        rw [fr_down h h2, hm]
        exact h3 hk
      · simp only
        rw [h4 i hi]
        by_cases hik : (i : Int) = k
        · have e : k.toNat = i := by omega
          rw [e] at hm
          rw [if_pos (by omega), if_neg (by omega)]
          unfold smB
          rw [hm]; simp
        · by_cases hle : (i : Int) ≤ k
          · rw [if_pos hle, if_pos (by omega)]
          · rw [if_neg hle, if_neg (by omega)]
    · have hk : 0 ≤ k := by simpa using hk
      have hl : l.toNat = 0 := by
        have : l = BitVec.ofInt 64 0 := by simpa using hl
        rw [this]; rfl
      have h0 := h3 hk
      rw [hl] at h0
      obtain ⟨rfl, rfl⟩ := bitAt_eq (a := a) (b := b) (c := smW v w m n X 0) (d := smW v w m n X 64) fun i hi => by
        rw [h4 i hi, bitAt_sm _ _ _ _ _ hi]
        by_cases hle : (i : Int) ≤ k
        · rw [if_pos hle, smB_end (k := k.toNat) (by omega) h0.symm]
        · rw [if_neg hle]
      rfl
    · have hk : ¬ 0 ≤ k := by simpa using hk
      obtain ⟨rfl, rfl⟩ := bitAt_eq (a := a) (b := b) (c := smW v w m n X 0) (d := smW v w m n X 64) fun i hi => by
        rw [h4 i hi, bitAt_sm _ _ _ _ _ hi, if_neg (by omega)]
      rfl
  · exact hF.elim


noncomputable def rwsomeCs : List (FuncId × Sx.Spec) := [(34, genSpec [none] bitsF),
  (35, genSpec [pBool] wordsF)]

theorem rwsome_run (v w m n : BitVec 64) (x : Int) (F : List Bool → List AV) (r : AV) : run rwsomeCs Try.prog 30 [.agg [.w64 v, .w64 w, .w64 m, .w64 n], .int .i64 x] [] (rsH F v w m n (BitVec.ofInt 64 x)) (yields (.v r)) =
    ((Go.Sx.St.mk [Go.Sx.AV.any, Go.Sx.AV.any, Go.Sx.AV.any, Go.Sx.AV.any, Go.Sx.AV.ptr (0 : Nat) (0 : Nat) (0 : Nat) Bool.true, Go.Sx.AV.slice ((0 : Nat) + (1 : Nat)) (0 : Nat) (List.length (Go.Proofs.Ythhckkollnnfeaa.L1.bitsOf v w)) Bool.false, Go.Sx.AV.slice ((0 : Nat) + (1 : Nat) + (1 : Nat)) (0 : Nat) (List.length (Go.Proofs.Ythhckkollnnfeaa.L1.bitsOf m n)) Bool.false, Go.Sx.AV.w64 (BitVec.ofInt (64 : Nat) x), Go.Sx.AV.int Go.IntKind.i64 (127 : Int), Go.Sx.AV.any, Go.Sx.AV.any, Go.Sx.AV.any, Go.Sx.AV.any, Go.Sx.AV.any, Go.Sx.AV.any, Go.Sx.AV.any, Go.Sx.AV.any, Go.Sx.AV.any, Go.Sx.AV.any, Go.Sx.AV.any, Go.Sx.AV.any, Go.Sx.AV.any, Go.Sx.AV.any, Go.Sx.AV.any, Go.Sx.AV.any, Go.Sx.AV.any, Go.Sx.AV.any, Go.Sx.AV.any, Go.Sx.AV.any, Go.Sx.AV.any, Go.Sx.AV.any, Go.Sx.AV.any, Go.Sx.AV.any, Go.Sx.AV.any, Go.Sx.AV.any, Go.Sx.AV.any] [Option.some (Go.Sx.Blk.mk Bool.true (23 : Nat) (2 : Nat) Bool.true [Go.Sx.AV.agg [Go.Sx.AV.lit (Go.Value.int Go.IntKind.u64 (0 : Int)), Go.Sx.AV.lit (Go.Value.int Go.IntKind.u64 (0 : Int))]]), Option.some (Go.Sx.Blk.mk Bool.true (4 : Go.TypeId) (1 : Nat) Bool.true (Go.Proofs.Ythhckkollnnfeaa.L1.bitsOf v w)), Option.some (Go.Sx.Blk.mk Bool.true (4 : Go.TypeId) (1 : Nat) Bool.true (Go.Proofs.Ythhckkollnnfeaa.L1.bitsOf m n))] = Go.Proofs.Ythhckkollnnfeaa.L1.rsSt F v w m n (BitVec.ofInt (64 : Nat) x) (Go.Proofs.Ythhckkollnnfeaa.L1.RefP.mk (127 : Int) (BitVec.ofInt (64 : Nat) x)) ∧ Go.Proofs.Ythhckkollnnfeaa.L1.rsI m n (BitVec.ofInt (64 : Nat) x) (Go.Proofs.Ythhckkollnnfeaa.L1.RefP.mk (127 : Int) (BitVec.ofInt (64 : Nat) x))) ∧ ∀ (p : Go.Proofs.Ythhckkollnnfeaa.L1.RefP), Go.Proofs.Ythhckkollnnfeaa.L1.rsI m n (BitVec.ofInt (64 : Nat) x) p → (Decidable.decide (Go.Proofs.Ythhckkollnnfeaa.L1.RefP.k p ≥ (0 : Int)) = Bool.true → ((0 : Int) ≤ p.1 ∧ p.1 < (↑(128 : Nat) : Int)) ∧ Go.Sx.Blk.read Go.Proofs.Try.prog (Go.Sx.Blk.mk Bool.true (4 : Go.TypeId) (1 : Nat) Bool.true (Go.Proofs.Ythhckkollnnfeaa.L1.bitsOf m n)) (4 : Nat) ((0 : Nat) + Int.toNat p.1) (0 : Nat) = Option.some (Go.Sx.AV.bool (Go.Sx.M.bitAt m n (Int.toNat p.1))) ∧ ((!Go.Sx.M.bitAt m n (Int.toNat (Go.Proofs.Ythhckkollnnfeaa.L1.RefP.k p))) = Bool.true → ((0 : Int) ≤ p.1 ∧ p.1 < (↑(128 : Nat) : Int)) ∧ Go.Sx.Blk.fits (Go.Sx.Blk.mk Bool.true (4 : Go.TypeId) (1 : Nat) Bool.true (F (Go.Proofs.Ythhckkollnnfeaa.L1.rsL v w m n (BitVec.ofInt (64 : Nat) x) p.1))) ((0 : Nat) + Int.toNat p.1) (0 : Nat) (Go.Sx.AV.bool (p.2 % BitVec.ofInt (64 : Nat) (2 : Int) == BitVec.ofInt (64 : Nat) (1 : Int))) = Bool.true ∧ Go.Sx.Blk.writes (Go.Sx.Blk.mk Bool.true (4 : Go.TypeId) (1 : Nat) Bool.true (F (Go.Proofs.Ythhckkollnnfeaa.L1.rsL v w m n (BitVec.ofInt (64 : Nat) x) p.1))) ((0 : Nat) + Int.toNat p.1) (0 : Nat) (Go.Sx.AV.bool (p.2 % BitVec.ofInt (64 : Nat) (2 : Int) == BitVec.ofInt (64 : Nat) (1 : Int))) (F (Go.Proofs.Ythhckkollnnfeaa.L1.rsL v w m n (BitVec.ofInt (64 : Nat) x) (p.1 - (1 : Int)))) ∧ Go.Sx.inRange Go.IntKind.i64 (p.1 - (1 : Int)) ∧ ∃ (p' : Go.Proofs.Ythhckkollnnfeaa.L1.RefP), Go.Sx.St.mk [Go.Sx.AV.any, Go.Sx.AV.any, Go.Sx.AV.any, Go.Sx.AV.any, Go.Sx.AV.ptr (0 : Nat) (0 : Nat) (0 : Nat) Bool.true, Go.Sx.AV.slice ((0 : Nat) + (1 : Nat)) (0 : Nat) (128 : Nat) Bool.false, Go.Sx.AV.slice ((0 : Nat) + (1 : Nat) + (1 : Nat)) (0 : Nat) (128 : Nat) Bool.false, Go.Sx.AV.w64 (p.2 / BitVec.ofInt (64 : Nat) (2 : Int)), Go.Sx.AV.int Go.IntKind.i64 (p.1 - (1 : Int)), Go.Sx.AV.any, Go.Sx.AV.any, Go.Sx.AV.any, Go.Sx.AV.any, Go.Sx.AV.any, Go.Sx.AV.any, Go.Sx.AV.any, Go.Sx.AV.any, Go.Sx.AV.any, Go.Sx.AV.any, Go.Sx.AV.any, Go.Sx.AV.any, Go.Sx.AV.any, Go.Sx.AV.any, Go.Sx.AV.any, Go.Sx.AV.any, Go.Sx.AV.any, Go.Sx.AV.any, Go.Sx.AV.any, Go.Sx.AV.any, Go.Sx.AV.any, Go.Sx.AV.any, Go.Sx.AV.any, Go.Sx.AV.any, Go.Sx.AV.any, Go.Sx.AV.any, Go.Sx.AV.any] [Option.some (Go.Sx.Blk.mk Bool.true (23 : Go.TypeId) (2 : Nat) Bool.true [Go.Sx.AV.agg [Go.Sx.AV.lit (Go.Value.int Go.IntKind.u64 (0 : Int)), Go.Sx.AV.lit (Go.Value.int Go.IntKind.u64 (0 : Int))]]), Option.some (Go.Sx.Blk.mk Bool.true (nat_lit 4) (1 : Nat) Bool.true (F (Go.Proofs.Ythhckkollnnfeaa.L1.rsL v w m n (BitVec.ofInt (64 : Nat) x) (p.1 - (1 : Int))))), Option.some (Go.Sx.Blk.mk Bool.true (4 : Go.TypeId) (1 : Nat) Bool.true (Go.Proofs.Ythhckkollnnfeaa.L1.bitsOf m n))] = Go.Proofs.Ythhckkollnnfeaa.L1.rsSt F v w m n (BitVec.ofInt (64 : Nat) x) p' ∧ Go.Proofs.Ythhckkollnnfeaa.L1.rsI m n (BitVec.ofInt (64 : Nat) x) p' ∧ Int.toNat (p'.1 + (1 : Int)) < Int.toNat (p.1 + (1 : Int))) ∧ ((!Go.Sx.M.bitAt m n (Int.toNat (Go.Proofs.Ythhckkollnnfeaa.L1.RefP.k p))) = Bool.false → Go.Sx.inRange Go.IntKind.i64 (p.1 - (1 : Int)) ∧ ∃ (p' : Go.Proofs.Ythhckkollnnfeaa.L1.RefP), Go.Sx.St.mk [Go.Sx.AV.any, Go.Sx.AV.any, Go.Sx.AV.any, Go.Sx.AV.any, Go.Sx.AV.ptr (0 : Nat) (0 : Nat) (0 : Nat) Bool.true, Go.Sx.AV.slice ((0 : Nat) + (1 : Nat)) (0 : Nat) (128 : Nat) Bool.false, Go.Sx.AV.slice ((0 : Nat) + (1 : Nat) + (1 : Nat)) (0 : Nat) (128 : Nat) Bool.false, Go.Sx.AV.w64 p.2, Go.Sx.AV.int Go.IntKind.i64 (p.1 - (1 : Int)), Go.Sx.AV.any, Go.Sx.AV.any, Go.Sx.AV.any, Go.Sx.AV.any, Go.Sx.AV.any, Go.Sx.AV.any, Go.Sx.AV.any, Go.Sx.AV.any, Go.Sx.AV.any, Go.Sx.AV.any, Go.Sx.AV.any, Go.Sx.AV.any, Go.Sx.AV.any, Go.Sx.AV.any, Go.Sx.AV.any, Go.Sx.AV.any, Go.Sx.AV.any, Go.Sx.AV.any, Go.Sx.AV.any, Go.Sx.AV.any, Go.Sx.AV.any, Go.Sx.AV.any, Go.Sx.AV.any, Go.Sx.AV.any, Go.Sx.AV.any, Go.Sx.AV.any, Go.Sx.AV.any] [Option.some (Go.Sx.Blk.mk Bool.true (23 : Go.TypeId) (2 : Nat) Bool.true [Go.Sx.AV.agg [Go.Sx.AV.lit (Go.Value.int Go.IntKind.u64 (0 : Int)), Go.Sx.AV.lit (Go.Value.int Go.IntKind.u64 (0 : Int))]]), Option.some (Go.Sx.Blk.mk Bool.true (4 : Go.TypeId) (1 : Nat) Bool.true (F (Go.Proofs.Ythhckkollnnfeaa.L1.rsL v w m n (BitVec.ofInt (64 : Nat) x) p.1))), Option.some (Go.Sx.Blk.mk Bool.true (4 : Go.TypeId) (1 : Nat) Bool.true (Go.Proofs.Ythhckkollnnfeaa.L1.bitsOf m n))] = Go.Proofs.Ythhckkollnnfeaa.L1.rsSt F v w m n (BitVec.ofInt (64 : Nat) x) p' ∧ Go.Proofs.Ythhckkollnnfeaa.L1.rsI m n (BitVec.ofInt (64 : Nat) x) p' ∧ Int.toNat (p'.1 + (1 : Int)) < Int.toNat (p.1 + (1 : Int)))) ∧ (Decidable.decide (Go.Proofs.Ythhckkollnnfeaa.L1.RefP.k p ≥ (0 : Int)) = Bool.false → (0 : Nat) + (128 : Nat) ≤ List.length (F (Go.Proofs.Ythhckkollnnfeaa.L1.rsL v w m n (BitVec.ofInt (64 : Nat) x) p.1)) ∧ ∃ (l : List Bool), List.take (128 : Nat) (List.drop (0 : Nat) (F (Go.Proofs.Ythhckkollnnfeaa.L1.rsL v w m n (BitVec.ofInt (64 : Nat) x) p.1))) = List.map Go.Sx.AV.bool l ∧ List.length l = (128 : Nat) ∧ Go.Sx.AV.agg [Go.Sx.AV.w64 (Go.Sx.M.W (fun (i : Nat) => List.getD l ((0 : Nat) + i) Bool.false) (64 : Nat)), Go.Sx.AV.w64 (Go.Sx.M.W (fun (i : Nat) => List.getD l ((64 : Nat) + i) Bool.false) (64 : Nat))] = r)) := by kernel_rfl

theorem rwsomeCs_ok : ∀ e ∈ rwsomeCs, SpecOK Try.prog e.1 e.2 := by
  intro e he
  simp only [rwsomeCs, List.mem_cons, List.not_mem_nil, or_false] at he
  rcases he with rfl | rfl
  · exact bits_ok
  · exact words_ok

theorem rwsome_ok : SpecOK Try.prog 30 (genSpec [none, none] wsomeF) := by
  refine genSpec_ok (run_ok (l := rwsomeCs) rwsomeCs_ok mixed noNG) fun l R hF => ?_
  unfold wsomeF at hF
  split at hF
  · rename_i v w m n x
    refine ⟨_, hF, rfl, (rsH (List.map .bool) v w m n (BitVec.ofInt 64 x)), ?_⟩
    show run rwsomeCs Try.prog _ [.agg [.w64 v, .w64 w, .w64 m, .w64 n], .int .i64 x] [] _ _
    rw [rwsome_run]
    generalize BitVec.ofInt 64 x = X
    have row0 : (rsL v w m n X 127).map AV.bool = bitsOf v w := by
      unfold rsL bitsOf
      rw [List.map_map]
      refine List.map_congr_left fun i hi => ?_
      have := List.mem_range.1 hi
      show AV.bool (if _ then _ else _) = _
      rw [if_pos (by omega)]
    refine ⟨⟨by unfold rsSt; rw [row0]; rfl, by simp, by simp, fun _ => ?_⟩, ?_⟩
    · show X.toNat = X.toNat / 2 ^ fr m n 127
      rw [fr_last]; simp
    rintro ⟨k, l⟩ ⟨h1, h2, h3⟩
    simp only at h1 h2 h3
    refine ⟨fun hk => ?_, fun hk => ?_⟩
    · have hk : 0 ≤ k := by simpa using hk
      obtain ⟨_, e2, _, e4⟩ := half_bit l X.toNat _ (h3 hk)
      refine ⟨by simp only; omega, read_bits hk (by simp only; omega) rfl, fun hb => ?_, fun hb => ?_⟩
      · have hm : bitAt m n k.toNat = false := by simpa using hb
        refine ⟨by simp only; omega, fits_map (f := fun (i : Nat) => if (i : Int) ≤ k then bitAt v w i else smB v w m n X i) hk (by simp only; omega),
          writes_map (f := fun (i : Nat) => if (i : Int) ≤ k then bitAt v w i else smB v w m n X i) (g := fun (i : Nat) => if (i : Int) ≤ k - 1 then bitAt v w i else smB v w m n X i) hk (by simp only; omega) fun i hi => ?_,
          inR (by simp only; omega) (by simp only; omega), ⟨k - 1, l / BitVec.ofInt 64 2⟩, rfl, ⟨by simp only; omega, by simp only; omega, fun h => ?_⟩, by simp only; omega⟩
        · rw [e2]
          by_cases hik : k = (i : Int)
          · have e : k.toNat = i := by omega
            rw [e] at hm
            rw [if_pos hik, if_neg (by omega), e]
            unfold smB
            rw [hm]; rfl
          · rw [if_neg hik]
            by_cases hle : (i : Int) ≤ k
            · rw [if_pos hle, if_pos (by omega)]
            · rw [if_neg hle, if_neg (by omega)]
        · simp only at h ⊢
          rw [fr_down h h2, hm]
          exact e4
      · have hm : bitAt m n k.toNat = true := by simpa using hb
        have row : rsL v w m n X k = rsL v w m n X (k - 1) := by
          unfold rsL
          refine List.map_congr_left fun i hi => ?_
          by_cases hik : k = (i : Int)
          · have e : k.toNat = i := by omega
            rw [e] at hm
            rw [if_pos (by omega), if_neg (by omega)]
            unfold smB
            rw [hm]; rfl
          · by_cases hle : (i : Int) ≤ k
            · rw [if_pos hle, if_pos (by omega)]
            · rw [if_neg hle, if_neg (by omega)]
        refine ⟨inR (by simp only; omega) (by simp only; omega), ⟨k - 1, l⟩, ?_, ⟨by simp only; omega, by simp only; omega, fun h => ?_⟩, by simp only; omega⟩
        · unfold rsSt
          simp only
          rw [row]
        · simp only at h ⊢
          rw [fr_down h h2, hm]
          exact h3 hk
    · have hk : ¬ 0 ≤ k := by simpa using hk
      have e : rsL v w m n X k = (List.range 128).map (smB v w m n X) := by
        unfold rsL
        refine List.map_congr_left fun i hi => ?_
        rw [if_neg (by omega)]
      simp only
      rw [e]
      obtain ⟨e1, e2⟩ := wd_bits (smB v w m n X) (smW v w m n X 0) (smW v w m n X 64) fun i hi => (bitAt_sm v w m n X hi).symm
      refine ⟨by simp, (List.range 128).map (smB v w m n X), by rw [List.drop_zero, List.take_of_length_le (by simp)], by simp, ?_⟩
      show AV.agg [.w64 (wd _ 0 64), .w64 (wd _ 64 64)] = _
      rw [e1, e2]
  · exact hF.elim


end Go.Proofs.Ythhckkollnnfeaa.L1
