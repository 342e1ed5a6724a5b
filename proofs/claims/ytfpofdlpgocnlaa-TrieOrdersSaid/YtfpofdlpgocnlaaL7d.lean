/-
  Texts in one: L7DR L7DP L7O L7OC L7ND L7Q.
-/
import Derived.Test.YtfpofdlpgocnlaaL7c
import Derived.Test.YtfpofdlpgocnlaaL7a

section
/-
  Layer 7: contracts of the program's calls on a trie: Drop.
-/
namespace Go.Sx.M
open Go.Proofs.Ytfpofdlpgocnlaa.L1

/-- A node that leads to no route. -/
def Tr.bare : Tr → Bool
  | .nd _ a l r => l.ptr.isNone && r.ptr.isNone && a == 0
  | .nil => false

def Tr.prune (t : Tr) : Tr := if t.bare then .nil else t

/-- Without the number at a way's end, and without the nodes that lead to none then; itself it stays. -/
def Tr.dropT (f : Nat → Bool) : Nat → Nat → Tr → Tr
  | _, _, .nil => .nil
  | _, 0, .nd q _ l r => .nd q 0 l r
  | k, n + 1, .nd q a l r => if f k then .nd q a l (Tr.dropT f (k + 1) n r).prune else .nd q a (Tr.dropT f (k + 1) n l).prune r

/-- A tree behind shrink at its node of depth i. -/
def Tr.shr (f : Nat → Bool) (i n : Nat) (t : Tr) : Tr := Tr.upd f 0 i (Tr.dropT f i (n - i) (Tr.sub f 0 i t)) t

theorem Tr.bare_iff {q : Addr} {a : Int} {l r : Tr} : (Tr.nd q a l r).bare = true ↔ a = 0 ∧ l = .nil ∧ r = .nil := by
  unfold Tr.bare
  rw [Bool.and_eq_true, Bool.and_eq_true, Tr.ptr_nil, Tr.ptr_nil, beq_iff_eq]
  exact ⟨fun ⟨⟨h1, h2⟩, h3⟩ => ⟨h3, h1, h2⟩, fun ⟨h3, h1, h2⟩ => ⟨⟨h1, h2⟩, h3⟩⟩

theorem Tr.dropT_nd (f : Nat → Bool) (k n : Nat) (q : Addr) (a : Int) (l r : Tr) : ∃ a' l' r', Tr.dropT f k n (.nd q a l r) = .nd q a' l' r' := by
  cases n with
  | zero => exact ⟨_, _, _, rfl⟩
  | succ n =>
    unfold Tr.dropT
    split
    · exact ⟨_, _, _, rfl⟩
    · exact ⟨_, _, _, rfl⟩

theorem Tr.prune_cases (t : Tr) : (t.bare = true ∧ t.prune = .nil) ∨ (t.bare = false ∧ t.prune = t) := by
  unfold Tr.prune
  cases h : t.bare with
  | true => exact .inl ⟨rfl, rfl⟩
  | false => exact .inr ⟨rfl, rfl⟩

/-- A node, with another tree below it. -/
def Tr.chS (s : Bool) (x : Tr) : Tr → Tr
  | .nil => .nil
  | .nd q a l r => if s then .nd q a l x else .nd q a x r

theorem Tr.dropT_one {f : Nat → Bool} {k n : Nat} {q : Addr} {a : Int} {l r : Tr} : Tr.dropT f k (n + 1) (.nd q a l r) = if f k then .nd q a l (Tr.dropT f (k + 1) n r).prune else .nd q a (Tr.dropT f (k + 1) n l).prune r := by rw [Tr.dropT]

theorem Tr.chS_nd {s : Bool} {x : Tr} {q : Addr} {a : Int} {l r : Tr} : Tr.chS s x (.nd q a l r) = if s then .nd q a l x else .nd q a x r := rfl

theorem Tr.dropT_succ (f : Nat → Bool) (k n : Nat) (t : Tr) : Tr.dropT f k (n + 1) t = Tr.chS (f k) (Tr.dropT f (k + 1) n (Tr.sub f k 1 t)).prune t := by
  cases t with
  | nil => rw [Tr.dropT]; rfl
  | nd q a l r =>
    rw [Tr.dropT_one, Tr.chS_nd, Tr.sub_one]
    cases hf : f k <;> rfl

theorem Tr.prune_size (t : Tr) : t.prune.size ≤ t.size := by
  rcases t.prune_cases with ⟨_, h⟩ | ⟨_, h⟩ <;> rw [h]
  · exact Nat.zero_le _
  · exact Nat.le_refl _

theorem Tr.dropT_size {f : Nat → Bool} : ∀ {n k : Nat} {t : Tr}, (Tr.dropT f k n t).size ≤ t.size
  | 0, _, .nil => Nat.le_refl _
  | _ + 1, _, .nil => Nat.le_refl _
  | 0, _, .nd _ _ _ _ => Nat.le_refl _
  | n + 1, k, .nd q a l r => by
    rw [Tr.dropT_one]
    split
    · have := Nat.le_trans (Tr.prune_size _) (Tr.dropT_size (f := f) (n := n) (k := k + 1) (t := r))
      show 1 + l.size + _ ≤ 1 + l.size + r.size
      omega
    · have := Nat.le_trans (Tr.prune_size _) (Tr.dropT_size (f := f) (n := n) (k := k + 1) (t := l))
      show 1 + _ + r.size ≤ 1 + l.size + r.size
      omega

theorem Tr.shr_size {f : Nat → Bool} {i n : Nat} {t : Tr} (h : Tr.sub f 0 i t ≠ .nil) : (Tr.shr f i n t).size ≤ t.size := by
  have h1 := Tr.upd_size (u' := Tr.dropT f i (n - i) (Tr.sub f 0 i t)) h
  have h2 := Tr.dropT_size (f := f) (k := i) (n := n - i) (t := Tr.sub f 0 i t)
  unfold Tr.shr
  omega

theorem Tr.upd_succ {f : Nat → Bool} {x : Tr} : ∀ {i k : Nat} {t : Tr}, Tr.upd f k (i + 1) x t = Tr.upd f k i (Tr.chS (f (k + i)) x (Tr.sub f k i t)) t
  | 0, k, .nil => rfl
  | 0, k, .nd q a l r => by
    rw [Tr.upd_one, Nat.add_zero]
    show _ = Tr.chS (f k) x (.nd q a l r)
    unfold Tr.chS
    cases hf : f k <;> rfl
  | i + 1, k, .nil => rfl
  | i + 1, k, .nd q a l r => by
    rw [Tr.upd_one, Tr.upd_one, Tr.sub_one, show k + (i + 1) = k + 1 + i by omega]
    cases hf : f k with
    | true => simp only [if_true]; rw [Tr.upd_succ]
    | false => simp only [Bool.false_eq_true, if_false]; rw [Tr.upd_succ]

theorem Tr.upd_upd {f : Nat → Bool} {x y : Tr} : ∀ {i k : Nat} {t : Tr}, Tr.upd f k i x (Tr.upd f k i y t) = Tr.upd f k i x t
  | 0, _, _ => rfl
  | i + 1, k, .nil => rfl
  | i + 1, k, .nd q a l r => by
    rw [Tr.upd_one, Tr.upd_one]
    cases hf : f k with
    | true => simp only [if_true]; rw [Tr.upd_one, hf, if_pos rfl, Tr.upd_upd]
    | false => simp only [Bool.false_eq_true, if_false]; rw [Tr.upd_one, hf, if_neg (by decide), Tr.upd_upd]

theorem Tr.sub_at {f : Nat → Bool} {i k : Nat} {t x : Tr} (h : Tr.sub f k i t ≠ .nil) : Tr.sub f k i (Tr.upd f k i x t) = x := Tr.sub_upd (m := 0) h

theorem TrB.at5 {w : Int} {nb : Nat} {len nds : Int} {t : Tr} {m : List AV} (h : TrB w nb len nds t m) : mread m (shift (some ⟨nb, 0, none⟩) 5) false 1 = some (.int .i64 nds) := by
  obtain ⟨x, y, z, hv⟩ := h.val
  show mread m (some ⟨nb, 0 + 5, none⟩) false 1 = _
  unfold mread
  simp only [hv]
  rfl

/-- A node's cell, written: its number, or nil for one of its pointers. -/
theorem TrB.set {w : Int} {b : Nat} {len nds : Int} {t : Tr} {m : List AV} (hB : TrB w b len nds t m) {f : Nat → Bool} {i : Nat} {q : Addr} {a a' : Int} {l r l' r' : Tr} (hu : Tr.sub f 0 i t = .nd q a l r) {j : Nat} {v : AV} (hj : j < 3)
    (hv : [AV.val (.pointer l.ptr), .val (.pointer r.ptr), .int .i64 a].set j v = [.val (.pointer l'.ptr), .val (.pointer r'.ptr), .int .i64 a']) (hl : l' = l ∨ l' = .nil) (hr : r' = r ∨ r' = .nil) :
    (mwrite m (shift (some q) j) v).isSome = true ∧ TrB w b len nds (Tr.upd f 0 i (.nd q a' l' r') t) (mwr m (shift (some q) j) v) := by
  have hlu := Tr.lies_sub f i 0 t hB.lies
  rw [hu] at hlu
  obtain ⟨w1, w2, w3⟩ := node_write (v := v) (i := j) hlu.2.1 hlu.1 hj
  rw [hv] at w2
  have hund : (Tr.nd q a l r).blks.Nodup := by rw [← hu]; exact Tr.sub_nodup hB.apart
  obtain ⟨⟨n1, n2⟩, n3, n4, n5⟩ := nd_nodup.1 hund
  obtain ⟨ty0, cs0, l0, hh⟩ := hB.head
  obtain ⟨cs2, l2, hh2⟩ := mwr_head w1 ⟨cs0, l0, hh⟩
  have hll : ∀ b', b' ∈ l'.blks → b' ∈ l.blks := fun b' h => by rcases hl with rfl | rfl; exact h; cases h
  have hrr : ∀ b', b' ∈ r'.blks → b' ∈ r.blks := fun b' h => by rcases hr with rfl | rfl; exact h; cases h
  have hl' : l'.lies (mwr m (shift (some q) j) v) := by
    rcases hl with rfl | rfl
    · exact Tr.lies_of (fun b' hb => w3 b' fun e => n1 (e ▸ hb)) hlu.2.2.1
    · exact trivial
  have hr' : r'.lies (mwr m (shift (some q) j) v) := by
    rcases hr with rfl | rfl
    · exact Tr.lies_of (fun b' hb => w3 b' fun e => n2 (e ▸ hb)) hlu.2.2.2
    · exact trivial
  have hnl : l'.blks.Nodup := by rcases hl with rfl | rfl; exact n3; exact List.nodup_nil
  have hnr : r'.blks.Nodup := by rcases hr with rfl | rfl; exact n4; exact List.nodup_nil
  refine ⟨w1, hB.turn hu ⟨w2, hlu.2.1, hl', hr'⟩ (fun b' _ hn => w3 b' fun e => hn (e ▸ List.mem_cons_self)) (hB.val_write hu hj) ⟨ty0, cs2, l2, hh2⟩ (nd_nodup.2 ⟨⟨fun h => n1 (hll _ h), fun h => n2 (hrr _ h)⟩, hnl, hnr, fun b' h1 h2 => n5 b' (hll _ h1) (hrr _ h2)⟩) (fun b' hb => .inl ?_) (fun h1 h2 => ⟨by rcases hl with rfl | rfl; exact h1; exact trivial, by rcases hr with rfl | rfl; exact h2; exact trivial⟩)⟩
  rw [Tr.blks_nd] at hb ⊢
  rcases List.mem_cons.1 hb with rfl | hb
  · exact List.mem_cons_self
  · rcases List.mem_append.1 hb with hb | hb
    · exact List.mem_cons_of_mem _ (List.mem_append_left _ (hll _ hb))
    · exact List.mem_cons_of_mem _ (List.mem_append_right _ (hrr _ hb))

/-- What is read of a node that lies. -/
theorem TrB.node {w : Int} {b : Nat} {len nds : Int} {t : Tr} {m : List AV} (hB : TrB w b len nds t m) {f : Nat → Bool} {i : Nat} {q : Addr} {a : Int} {l r : Tr} (hu : Tr.sub f 0 i t = .nd q a l r) : mread m (some q) true 3 = some (.agg [.val (.pointer l.ptr), .val (.pointer r.ptr), .int .i64 a]) ∧ sure (some q) = true := by
  have hlu := Tr.lies_sub f i 0 t hB.lies
  rw [hu] at hlu
  exact ⟨hlu.1, hlu.2.1⟩

/-- One step of shrink: the node below has been let go. -/
theorem shr_bare {w : Int} {b : Nat} {len : Int} {t : Tr} {m : List AV} {f : Nat → Bool} {i n : Nat} (hi : i < n) {q : Addr} {a : Int} {l r : Tr} (hu : Tr.sub f 0 i t = .nd q a l r) (hB : TrB w b len ((Tr.shr f (i + 1) n t).size : Int) (Tr.shr f (i + 1) n t) m)
    (hb : (Tr.dropT f (i + 1) (n - (i + 1)) (Tr.sub f 0 (i + 1) t)).bare = true) {s : Nat} (hs : s = if f i then 1 else 0) {m2 m3 : List AV} (e2 : m2 = mwr m (shift (shift (some q) 0) s) (.val (.pointer none))) (e3 : m3 = mwr m2 (shift (some ⟨b, 0, none⟩) 5) (.int .i64 (((Tr.shr f (i + 1) n t).size : Int) - 1))) :
    (mwrite m (shift (shift (some q) 0) s) (.val (.pointer none))).isSome = true ∧ mread m2 (shift (some ⟨b, 0, none⟩) 5) false 1 = some (.int .i64 ((Tr.shr f (i + 1) n t).size : Int)) ∧ (mwrite m2 (shift (some ⟨b, 0, none⟩) 5) (.int .i64 (((Tr.shr f (i + 1) n t).size : Int) - 1))).isSome = true ∧ TrB w b len ((Tr.shr f i n t).size : Int) (Tr.shr f i n t) m3 := by
  have hne : Tr.sub f 0 i t ≠ .nil := fun e => by rw [hu] at e; cases e
  have hchild : Tr.sub f i 1 (Tr.nd q a l r) = Tr.sub f 0 (i + 1) t := by rw [← hu]; exact sub_next f i t
  have hn : n - i = (n - (i + 1)) + 1 := by omega
  generalize hv : Tr.dropT f (i + 1) (n - (i + 1)) (Tr.sub f 0 (i + 1) t) = v at hb
  have hvn : v ≠ .nil := fun e => by rw [e] at hb; cases hb
  have h1 : Tr.shr f (i + 1) n t = Tr.upd f 0 i (Tr.chS (f i) v (.nd q a l r)) t := by
    unfold Tr.shr
    rw [hv, Tr.upd_succ, Nat.zero_add, hu]
  have h2 : Tr.shr f i n t = Tr.upd f 0 i (Tr.chS (f i) .nil (.nd q a l r)) t := by
    unfold Tr.shr
    rw [hn, Tr.dropT_succ, hu, hchild, hv]
    unfold Tr.prune
    rw [if_pos hb]
  have hsub : Tr.sub f 0 i (Tr.shr f (i + 1) n t) = Tr.chS (f i) v (.nd q a l r) := by rw [h1]; exact Tr.sub_at hne
  have hsz : (Tr.shr f i n t).size + 1 = (Tr.shr f (i + 1) n t).size := by
    have g1 := Tr.upd_size (u' := Tr.chS (f i) v (.nd q a l r)) hne
    have g2 := Tr.upd_size (u' := Tr.chS (f i) .nil (.nd q a l r)) hne
    rw [← h1] at g1
    rw [← h2] at g2
    have hv1 : v.size = 1 := by
      cases v with
      | nil => exact absurd rfl hvn
      | nd q' a' l' r' => obtain ⟨_, rfl, rfl⟩ := Tr.bare_iff.1 hb; rfl
    have : (Tr.chS (f i) v (.nd q a l r)).size = (Tr.chS (f i) .nil (.nd q a l r)).size + 1 := by
      rw [Tr.chS_nd, Tr.chS_nd]
      split
      · show 1 + l.size + v.size = 1 + l.size + 0 + 1; omega
      · show 1 + v.size + r.size = 1 + 0 + r.size + 1; omega
    omega
  have hset : (mwrite m (shift (some q) s) (.val (.pointer none))).isSome = true ∧ TrB w b len ((Tr.shr f (i + 1) n t).size : Int) (Tr.shr f i n t) (mwr m (shift (some q) s) (.val (.pointer none))) := by
    rw [h2, ← Tr.upd_upd (y := Tr.chS (f i) v (.nd q a l r)), ← h1]
    cases hf : f i with
    | true =>
      rw [hf] at hs hsub
      have hs : s = 1 := hs
      subst hs
      exact hB.set (l' := l) (r' := .nil) hsub (by omega) rfl (.inl rfl) (.inr rfl)
    | false =>
      rw [hf] at hs hsub
      have hs : s = 0 := hs
      subst hs
      exact hB.set (l' := .nil) (r' := r) hsub (by omega) rfl (.inr rfl) (.inl rfl)
  rw [shift_shift, Nat.zero_add] at e2 ⊢
  rw [← e2] at hset
  obtain ⟨g1, hB2⟩ := hset
  obtain ⟨f1, f2, f3, f4⟩ := hB2.field (i := 5) (.inr rfl) (((Tr.shr f (i + 1) n t).size : Int) - 1)
  rw [← e3] at f2 f3 f4
  refine ⟨g1, hB2.at5, f1, ?_⟩
  rw [show ((Tr.shr f i n t).size : Int) = ((Tr.shr f (i + 1) n t).size : Int) - 1 by omega]
  exact ⟨f2, hB2.root, f3, hB2.apart, f4⟩

/-- One step of shrink: nothing is let go. -/
theorem shr_kept {t : Tr} {f : Nat → Bool} {i n : Nat} (hi : i < n) (hb : (Tr.dropT f (i + 1) (n - (i + 1)) (Tr.sub f 0 (i + 1) t)).bare = false) : Tr.shr f i n t = Tr.shr f (i + 1) n t := by
  unfold Tr.shr
  rw [show n - i = (n - (i + 1)) + 1 by omega, Tr.dropT_succ, Tr.upd_succ, Nat.zero_add, sub_next]
  unfold Tr.prune
  rw [if_neg (by rw [hb]; simp)]

/-- At the way's end: the number goes. -/
theorem shr_end {w : Int} {b : Nat} {len : Int} {t : Tr} {m : List AV} {f : Nat → Bool} {i : Nat} {q : Addr} {a : Int} {l r : Tr} (hu : Tr.sub f 0 i t = .nd q a l r) (hB : TrB w b len (t.size : Int) t m) :
    (mwrite m (shift (some q) 2) (.int .i64 0)).isSome = true ∧ TrB w b len ((Tr.shr f i i t).size : Int) (Tr.shr f i i t) (mwr m (shift (some q) 2) (.int .i64 0)) := by
  have hne : Tr.sub f 0 i t ≠ .nil := fun e => by rw [hu] at e; cases e
  obtain ⟨g1, g2⟩ := hB.set (f := f) (l' := l) (r' := r) (a' := 0) hu (j := 2) (v := .int .i64 0) (by omega) rfl (.inl rfl) (.inl rfl)
  have e : Tr.shr f i i t = Tr.upd f 0 i (.nd q 0 l r) t := by
    unfold Tr.shr
    rw [hu, Nat.sub_self]
    rfl
  have hs := Tr.upd_size (u' := .nd q 0 l r) hne
  rw [hu] at hs
  refine ⟨g1, ?_⟩
  rw [e, show (Tr.upd f 0 i (.nd q 0 l r) t).size = t.size from Nat.add_right_cancel hs]
  exact g2

end Go.Sx.M
namespace Go.Proofs.Ytfpofdlpgocnlaa.L1
open Go.Sx Go.Sx.M

def shrinkF (N : Nat) : List AV → List Arg → (List AV → AV → Prop) → Prop
  | m, [.v (.val (.pointer q0)), .v (.val (.pointer q)), .v (.agg [.w64 a, .w64 b, .int .i64 len]), .v (.int .i64 k)], R => ∃ (w : Int) (nb : Nat) (lenT : Int) (t : Tr) (i : Nat), k = (i : Int) ∧ (i : Int) ≤ len ∧ len ≤ 128 ∧ len.toNat + 1 ≤ i + N ∧ TrB w nb lenT (t.size : Int) t m ∧ t.size ≤ 1000000 ∧ Tr.sub (bitAt a b) 0 len.toNat t ≠ .nil ∧ q0 = some ⟨nb, 0, none⟩ ∧ q = (Tr.sub (bitAt a b) 0 i t).ptr ∧
      ∀ m', TrB w nb lenT ((Tr.shr (bitAt a b) i len.toNat t).size : Int) (Tr.shr (bitAt a b) i len.toNat t) m' → R m' (.bool (Tr.dropT (bitAt a b) i (len.toNat - i) (Tr.sub (bitAt a b) 0 i t)).bare)
  | _, _, _ => False

def srH (pv x y : Option Addr) (z nds1 : Int) : List Hint := [.fork [.cell (.agg [.val (.pointer x), .val (.pointer y), .int .i64 z])] [.wrc [50], .dy, .cell (.val (.pointer pv)), .nw, .fork [.dy, .cell (.int .i64 nds1), .nw, .cell (.agg [.val (.pointer x), .val (.pointer y), .int .i64 z])] [.cell (.agg [.val (.pointer x), .val (.pointer y), .int .i64 z])]]]

noncomputable def srCs (N : Nat) : List (FuncId × Sx.Spec) := [(50, memW [none, none, none, none] (shrinkF N)), (63, genSpec [none, none] sideF)]

theorem shrink_run (N nb : Nat) (m : List AV) (q pv x y : Option Addr) (z nds1 : Int) (a b : BitVec 64) (len k : Int) (R : List AV → AV → Prop) : evFn (run (srCs N) Try.prog) Try.prog 50 [.val (.pointer (some ⟨nb, 0, none⟩)), .val (.pointer q), .agg [.w64 a, .w64 b, .int .i64 len], .int .i64 k] [some ⟨true, memTy, 0, true, m⟩] (srH pv x y z nds1) (turnsR R) =
    (((k == len) = true → Option.isSome q = true ∧ sure q = true ∧ Option.isSome (mwrite m (shift q (2 : Nat)) (AV.int IntKind.i64 (0 : Int))) = true ∧ Option.isSome q = true ∧ mread (mwr m (shift q (2 : Nat)) (AV.int IntKind.i64 (0 : Int))) q true (3 : Nat) = some (AV.agg [AV.val (Value.pointer x), AV.val (Value.pointer y), AV.int IntKind.i64 z]) ∧ R (mwr m (shift q (2 : Nat)) (AV.int IntKind.i64 (0 : Int))) (AV.bool (Option.isNone x && Option.isNone y && z == (0 : Int)))) ∧ ((k == len) = false → (bitZ a b k = true → Option.isSome q = true ∧ sure q = true ∧ ((0 : Int) ≤ (1 : Int) ∧ (1 : Int) < (↑(2 : Nat) : Int)) ∧ sure (shift q (0 : Nat)) = true ∧ mread m (shift (shift q (0 : Nat)) (Int.toNat (1 : Int) * (1 : Nat))) false (1 : Nat) = some (AV.val (Value.pointer pv)) ∧ inRange IntKind.i64 (k + (1 : Int)) ∧ ∃ (w : Int), ∃ (nb_1 : Nat), ∃ (lenT : Int), ∃ (t : Tr), ∃ (i : Nat), k + (1 : Int) = (↑i : Int) ∧ (↑i : Int) ≤ len ∧ len ≤ (128 : Int) ∧ Int.toNat len + (1 : Nat) ≤ i + N ∧ TrB w nb_1 lenT (↑(Tr.size t) : Int) t m ∧ Tr.size t ≤ (1000000 : Nat) ∧ Tr.sub (bitAt a b) (0 : Nat) (Int.toNat len) t ≠ Tr.nil ∧ some (Addr.mk nb (0 : Nat) none) = some (Addr.mk nb_1 (0 : Nat) none) ∧ pv = Tr.ptr (Tr.sub (bitAt a b) (0 : Nat) i t) ∧ ∀ (m' : List AV), TrB w nb_1 lenT (↑(Tr.size (Tr.shr (bitAt a b) i (Int.toNat len) t)) : Int) (Tr.shr (bitAt a b) i (Int.toNat len) t) m' → (Tr.bare (Tr.dropT (bitAt a b) i (Int.toNat len - i) (Tr.sub (bitAt a b) (0 : Nat) i t)) = true → Option.isSome q = true ∧ sure q = true ∧ ((0 : Int) ≤ (1 : Int) ∧ (1 : Int) < (↑(2 : Nat) : Int)) ∧ sure (shift q (0 : Nat)) = true ∧ Option.isSome (mwrite m' (shift (shift q (0 : Nat)) (Int.toNat (1 : Int) * (1 : Nat))) (AV.val (Value.pointer none))) = true ∧ Option.isSome (some (Addr.mk nb (0 : Nat) none)) = true ∧ sure (some (Addr.mk nb (0 : Nat) none)) = true ∧ mread (mwr m' (shift (shift q (0 : Nat)) (Int.toNat (1 : Int) * (1 : Nat))) (AV.val (Value.pointer none))) (shift (some (Addr.mk nb (0 : Nat) none)) (5 : Nat)) false (1 : Nat) = some (AV.int IntKind.i64 nds1) ∧ inRange IntKind.i64 (nds1 - (1 : Int)) ∧ Option.isSome (some (Addr.mk nb (0 : Nat) none)) = true ∧ sure (some (Addr.mk nb (0 : Nat) none)) = true ∧ Option.isSome (mwrite (mwr m' (shift (shift q (0 : Nat)) (Int.toNat (1 : Int) * (1 : Nat))) (AV.val (Value.pointer none))) (shift (some (Addr.mk nb (0 : Nat) none)) (5 : Nat)) (AV.int IntKind.i64 (nds1 - (1 : Int)))) = true ∧ Option.isSome q = true ∧ mread (mwr (mwr m' (shift (shift q (0 : Nat)) (Int.toNat (1 : Int) * (1 : Nat))) (AV.val (Value.pointer none))) (shift (some (Addr.mk nb (0 : Nat) none)) (5 : Nat)) (AV.int IntKind.i64 (nds1 - (1 : Int)))) q true (3 : Nat) = some (AV.agg [AV.val (Value.pointer x), AV.val (Value.pointer y), AV.int IntKind.i64 z]) ∧ R (mwr (mwr m' (shift (shift q (0 : Nat)) (Int.toNat (1 : Int) * (1 : Nat))) (AV.val (Value.pointer none))) (shift (some (Addr.mk nb (0 : Nat) none)) (5 : Nat)) (AV.int IntKind.i64 (nds1 - (1 : Int)))) (AV.bool (Option.isNone x && Option.isNone y && z == (0 : Int)))) ∧ (Tr.bare (Tr.dropT (bitAt a b) i (Int.toNat len - i) (Tr.sub (bitAt a b) (0 : Nat) i t)) = false → Option.isSome q = true ∧ mread m' q true (3 : Nat) = some (AV.agg [AV.val (Value.pointer x), AV.val (Value.pointer y), AV.int IntKind.i64 z]) ∧ R m' (AV.bool (Option.isNone x && Option.isNone y && z == (0 : Int))))) ∧ (bitZ a b k = false → Option.isSome q = true ∧ sure q = true ∧ ((0 : Int) ≤ (0 : Int) ∧ (0 : Int) < (↑(2 : Nat) : Int)) ∧ sure (shift q (0 : Nat)) = true ∧ mread m (shift (shift q (0 : Nat)) (Int.toNat (0 : Int) * (1 : Nat))) false (1 : Nat) = some (AV.val (Value.pointer pv)) ∧ inRange IntKind.i64 (k + (1 : Int)) ∧ ∃ (w : Int), ∃ (nb_1 : Nat), ∃ (lenT : Int), ∃ (t : Tr), ∃ (i : Nat), k + (1 : Int) = (↑i : Int) ∧ (↑i : Int) ≤ len ∧ len ≤ (128 : Int) ∧ Int.toNat len + (1 : Nat) ≤ i + N ∧ TrB w nb_1 lenT (↑(Tr.size t) : Int) t m ∧ Tr.size t ≤ (1000000 : Nat) ∧ Tr.sub (bitAt a b) (0 : Nat) (Int.toNat len) t ≠ Tr.nil ∧ some (Addr.mk nb (0 : Nat) none) = some (Addr.mk nb_1 (0 : Nat) none) ∧ pv = Tr.ptr (Tr.sub (bitAt a b) (0 : Nat) i t) ∧ ∀ (m' : List AV), TrB w nb_1 lenT (↑(Tr.size (Tr.shr (bitAt a b) i (Int.toNat len) t)) : Int) (Tr.shr (bitAt a b) i (Int.toNat len) t) m' → (Tr.bare (Tr.dropT (bitAt a b) i (Int.toNat len - i) (Tr.sub (bitAt a b) (0 : Nat) i t)) = true → Option.isSome q = true ∧ sure q = true ∧ ((0 : Int) ≤ (0 : Int) ∧ (0 : Int) < (↑(2 : Nat) : Int)) ∧ sure (shift q (0 : Nat)) = true ∧ Option.isSome (mwrite m' (shift (shift q (0 : Nat)) (Int.toNat (0 : Int) * (1 : Nat))) (AV.val (Value.pointer none))) = true ∧ Option.isSome (some (Addr.mk nb (0 : Nat) none)) = true ∧ sure (some (Addr.mk nb (0 : Nat) none)) = true ∧ mread (mwr m' (shift (shift q (0 : Nat)) (Int.toNat (0 : Int) * (1 : Nat))) (AV.val (Value.pointer none))) (shift (some (Addr.mk nb (0 : Nat) none)) (5 : Nat)) false (1 : Nat) = some (AV.int IntKind.i64 nds1) ∧ inRange IntKind.i64 (nds1 - (1 : Int)) ∧ Option.isSome (some (Addr.mk nb (0 : Nat) none)) = true ∧ sure (some (Addr.mk nb (0 : Nat) none)) = true ∧ Option.isSome (mwrite (mwr m' (shift (shift q (0 : Nat)) (Int.toNat (0 : Int) * (1 : Nat))) (AV.val (Value.pointer none))) (shift (some (Addr.mk nb (0 : Nat) none)) (5 : Nat)) (AV.int IntKind.i64 (nds1 - (1 : Int)))) = true ∧ Option.isSome q = true ∧ mread (mwr (mwr m' (shift (shift q (0 : Nat)) (Int.toNat (0 : Int) * (1 : Nat))) (AV.val (Value.pointer none))) (shift (some (Addr.mk nb (0 : Nat) none)) (5 : Nat)) (AV.int IntKind.i64 (nds1 - (1 : Int)))) q true (3 : Nat) = some (AV.agg [AV.val (Value.pointer x), AV.val (Value.pointer y), AV.int IntKind.i64 z]) ∧ R (mwr (mwr m' (shift (shift q (0 : Nat)) (Int.toNat (0 : Int) * (1 : Nat))) (AV.val (Value.pointer none))) (shift (some (Addr.mk nb (0 : Nat) none)) (5 : Nat)) (AV.int IntKind.i64 (nds1 - (1 : Int)))) (AV.bool (Option.isNone x && Option.isNone y && z == (0 : Int)))) ∧ (Tr.bare (Tr.dropT (bitAt a b) i (Int.toNat len - i) (Tr.sub (bitAt a b) (0 : Nat) i t)) = false → Option.isSome q = true ∧ mread m' q true (3 : Nat) = some (AV.agg [AV.val (Value.pointer x), AV.val (Value.pointer y), AV.int IntKind.i64 z]) ∧ R m' (AV.bool (Option.isNone x && Option.isNone y && z == (0 : Int))))))) := by kernel_rfl

theorem shrink_ok' : ∀ N : Nat, SpecOK Try.prog 50 (memW [none, none, none, none] (shrinkF N))
  | 0 => by
    refine memW_ok none_ok fun m l R hF => ?_
    unfold shrinkF at hF
    split at hF
    · obtain ⟨_, _, _, _, _, rfl, h1, h2, h3, _⟩ := hF
      omega
    · exact hF.elim
  | N + 1 => by
    have hCs : ∀ e ∈ srCs N, SpecOK Try.prog e.1 e.2 := by
      intro e he
      simp only [srCs, List.mem_cons, List.not_mem_nil, or_false] at he
      rcases he with rfl | rfl
      · exact shrink_ok' N
      · exact side_ok
    refine memW_ok (evFn_ok (run_ok (l := srCs N) hCs mixed noNG) mixed noNG) fun m l R hF => ?_
    unfold shrinkF at hF
    split at hF
    · rename_i q0 q a b len k
      obtain ⟨w, nb, lenT, t, i, rfl, hi, hlen, hN, hB, hsz, hne, rfl, rfl, hR⟩ := hF
      have hin : i ≤ len.toNat := by omega
      have hui : Tr.sub (bitAt a b) 0 i t ≠ .nil := fun e => hne (by rw [show len.toNat = i + (len.toNat - i) by omega, Tr.sub_add, e, Tr.sub_nil])
      cases hu : Tr.sub (bitAt a b) 0 i t with
      | nil => exact absurd hu hui
      | nd q act lt rt =>
      rw [hu] at hR
      obtain ⟨a', l', r', hd⟩ := Tr.dropT_nd (bitAt a b) i (len.toNat - i) q act lt rt
      rw [hd] at hR
      have hsubT : Tr.sub (bitAt a b) 0 i (Tr.shr (bitAt a b) i len.toNat t) = .nd q a' l' r' := by
        unfold Tr.shr
        rw [Tr.sub_at hui, hu, hd]
      refine ⟨srH (Tr.sub (bitAt a b) 0 (i + 1) t).ptr l'.ptr r'.ptr a' ((Tr.shr (bitAt a b) (i + 1) len.toNat t).size : Int), ?_⟩
      show evFn (run (srCs N) Try.prog) Try.prog _ [.val (.pointer (some ⟨nb, 0, none⟩)), .val (.pointer (some q)), .agg [.w64 a, .w64 b, .int .i64 len], .int .i64 (i : Int)] [some ⟨true, memTy, 0, true, m⟩] _ _
      rw [shrink_run]
      obtain ⟨hrd, hsure⟩ := hB.node hu
      refine ⟨fun he => ?_, fun hn => ?_⟩
      · have he : (i : Int) = len := by simpa using he
        have hl : len.toNat = i := by omega
        rw [hl] at hR hsubT
        obtain ⟨g1, g2⟩ := shr_end hu hB
        exact ⟨rfl, hsure, g1, rfl, (g2.node hsubT).1, hR _ g2⟩
      · have hn : (i : Int) ≠ len := by simpa using hn
        have hlt : i < len.toNat := by omega
        have hz : bitZ a b (i : Int) = bitAt a b i := bitZ_at (by omega) (by omega)
        have hlu := Tr.lies_sub (bitAt a b) i 0 t hB.lies
        have hst := Tr.step_read hlu hui (bitAt a b) i
        rw [sub_next, hu] at hst
        have inK : inRange .i64 ((i : Int) + 1) := inR (by omega) (by omega)
        have key : ∀ s : Nat, s = (if bitAt a b i then 1 else 0) → ∃ (w : Int) (nb_1 : Nat) (lenT : Int) (t_1 : Tr) (i_1 : Nat), (i : Int) + 1 = (i_1 : Int) ∧ (i_1 : Int) ≤ len ∧ len ≤ 128 ∧ len.toNat + 1 ≤ i_1 + N ∧ TrB w nb_1 lenT (t_1.size : Int) t_1 m ∧ t_1.size ≤ 1000000 ∧ Tr.sub (bitAt a b) 0 len.toNat t_1 ≠ .nil ∧ some (Addr.mk nb 0 none) = some (Addr.mk nb_1 0 none) ∧ (Tr.sub (bitAt a b) 0 (i + 1) t).ptr = (Tr.sub (bitAt a b) 0 i_1 t_1).ptr ∧
            ∀ m' : List AV, TrB w nb_1 lenT ((Tr.shr (bitAt a b) i_1 len.toNat t_1).size : Int) (Tr.shr (bitAt a b) i_1 len.toNat t_1) m' →
              ((Tr.dropT (bitAt a b) i_1 (len.toNat - i_1) (Tr.sub (bitAt a b) 0 i_1 t_1)).bare = true → (some q).isSome = true ∧ sure (some q) = true ∧ (0 : Int) ≤ 1 ∧ sure (shift (some q) 0) = true ∧ (mwrite m' (shift (shift (some q) 0) s) (.val (.pointer none))).isSome = true ∧ (some (Addr.mk nb 0 none)).isSome = true ∧ sure (some (Addr.mk nb 0 none)) = true ∧
                mread (mwr m' (shift (shift (some q) 0) s) (.val (.pointer none))) (shift (some (Addr.mk nb 0 none)) 5) false 1 = some (.int .i64 ((Tr.shr (bitAt a b) (i + 1) len.toNat t).size : Int)) ∧ inRange .i64 (((Tr.shr (bitAt a b) (i + 1) len.toNat t).size : Int) - 1) ∧ (some (Addr.mk nb 0 none)).isSome = true ∧ sure (some (Addr.mk nb 0 none)) = true ∧
                (mwrite (mwr m' (shift (shift (some q) 0) s) (.val (.pointer none))) (shift (some (Addr.mk nb 0 none)) 5) (.int .i64 (((Tr.shr (bitAt a b) (i + 1) len.toNat t).size : Int) - 1))).isSome = true ∧ (some q).isSome = true ∧
                mread (mwr (mwr m' (shift (shift (some q) 0) s) (.val (.pointer none))) (shift (some (Addr.mk nb 0 none)) 5) (.int .i64 (((Tr.shr (bitAt a b) (i + 1) len.toNat t).size : Int) - 1))) (some q) true 3 = some (.agg [.val (.pointer l'.ptr), .val (.pointer r'.ptr), .int .i64 a']) ∧
                R (mwr (mwr m' (shift (shift (some q) 0) s) (.val (.pointer none))) (shift (some (Addr.mk nb 0 none)) 5) (.int .i64 (((Tr.shr (bitAt a b) (i + 1) len.toNat t).size : Int) - 1))) (.bool (l'.ptr.isNone && r'.ptr.isNone && a' == 0))) ∧
              ((Tr.dropT (bitAt a b) i_1 (len.toNat - i_1) (Tr.sub (bitAt a b) 0 i_1 t_1)).bare = false → (some q).isSome = true ∧ mread m' (some q) true 3 = some (.agg [.val (.pointer l'.ptr), .val (.pointer r'.ptr), .int .i64 a']) ∧ R m' (.bool (l'.ptr.isNone && r'.ptr.isNone && a' == 0))) := by
          intro s hs
          refine ⟨w, nb, lenT, t, i + 1, by omega, by omega, hlen, by omega, hB, hsz, hne, rfl, rfl, fun m' hB' => ⟨fun hb => ?_, fun hb => ?_⟩⟩
          · obtain ⟨g1, g2, g3, g4⟩ := shr_bare hlt hu hB' hb hs rfl rfl
            have hle : (Tr.shr (bitAt a b) (i + 1) len.toNat t).size ≤ 1000000 := Nat.le_trans (Tr.shr_size (fun e => hne (by rw [show len.toNat = (i + 1) + (len.toNat - (i + 1)) by omega, Tr.sub_add, e, Tr.sub_nil]))) hsz
            exact ⟨rfl, hsure, by decide, sure_shift hsure 0, g1, rfl, rfl, g2, inR (by omega) (by omega), rfl, rfl, g3, rfl, (g4.node hsubT).1, hR _ g4⟩
          · have e := shr_kept hlt hb
            rw [← e] at hB'
            exact ⟨rfl, (hB'.node hsubT).1, hR _ hB'⟩
        refine ⟨fun hb => ?_, fun hb => ?_⟩
        · rw [hz] at hb
          have e1 : (if bitAt a b i then 1 else 0 : Nat) = 1 := by rw [hb]; rfl
          rw [e1] at hst
          obtain ⟨w', nb', lenT', t', i', h1, h2, h3, h4, h5, h6, h7, h8, h9, h10⟩ := key 1 e1.symm
          refine ⟨rfl, hsure, ⟨by decide, by decide⟩, sure_shift hsure 0, hst, inK, w', nb', lenT', t', i', h1, h2, h3, h4, h5, h6, h7, h8, h9, fun m' hm => ⟨fun hbb => ?_, fun hbb => (h10 m' hm).2 hbb⟩⟩
          obtain ⟨p1, p2, p3, p4, p5⟩ := (h10 m' hm).1 hbb
          exact ⟨p1, p2, ⟨by decide, by decide⟩, p4, p5⟩
        · rw [hz] at hb
          have e1 : (if bitAt a b i then 1 else 0 : Nat) = 0 := by rw [hb]; rfl
          rw [e1] at hst
          obtain ⟨w', nb', lenT', t', i', h1, h2, h3, h4, h5, h6, h7, h8, h9, h10⟩ := key 0 e1.symm
          refine ⟨rfl, hsure, ⟨by decide, by decide⟩, sure_shift hsure 0, hst, inK, w', nb', lenT', t', i', h1, h2, h3, h4, h5, h6, h7, h8, h9, fun m' hm => ⟨fun hbb => ?_, fun hbb => (h10 m' hm).2 hbb⟩⟩
          obtain ⟨p1, p2, p3, p4, p5⟩ := (h10 m' hm).1 hbb
          exact ⟨p1, p2, ⟨by decide, by decide⟩, p4, p5⟩
    · exact hF.elim

theorem shrink_ok : SpecOK Try.prog 50 (memW [none, none, none, none] (shrinkF 200)) := shrink_ok' 200

end Go.Proofs.Ytfpofdlpgocnlaa.L1
end

section
/-
  Layer 7: contracts of the program's calls on a trie: Drop, New.
-/
namespace Go.Sx.M
open Go.Proofs.Ytfpofdlpgocnlaa.L1

theorem Tr.bare_act {t : Tr} (h : t.bare = true) (g : Nat → Bool) (k m : Nat) : (Tr.sub g k m t).act = 0 := by
  cases t with
  | nil => cases h
  | nd q a l r =>
    obtain ⟨rfl, rfl, rfl⟩ := Tr.bare_iff.1 h
    cases m with
    | zero => rfl
    | succ m =>
      rw [Tr.sub_one]
      split <;> rw [Tr.sub_nil] <;> rfl

theorem Tr.prune_act (t : Tr) (g : Nat → Bool) (k m : Nat) : (Tr.sub g k m t.prune).act = (Tr.sub g k m t).act := by
  rcases t.prune_cases with ⟨hb, h⟩ | ⟨_, h⟩
  · rw [h, Tr.bare_act hb, Tr.sub_nil]; rfl
  · rw [h]

/-- What is found behind it, along any way. -/
theorem Tr.dropT_act {f g : Nat → Bool} : ∀ {n k m : Nat} {t : Tr}, (Tr.sub g k m (Tr.dropT f k n t)).act = if m = n ∧ (∀ i, i < n → g (k + i) = f (k + i)) then 0 else (Tr.sub g k m t).act
  | n, k, m, .nil => by
    have : Tr.dropT f k n .nil = .nil := by cases n <;> rw [Tr.dropT]
    rw [this, Tr.sub_nil]
    split <;> rfl
  | 0, k, 0, .nd q a l r => by rw [if_pos ⟨rfl, fun i h1 => by omega⟩]; rfl
  | 0, k, m + 1, .nd q a l r => by rw [if_neg fun h => by omega]; rfl
  | n + 1, k, 0, .nd q a l r => by
    rw [if_neg fun h => by omega, Tr.dropT_one]
    split <;> rfl
  | n + 1, k, m + 1, .nd q a l r => by
    rw [Tr.dropT_one]
    have hP : (m + 1 = n + 1 ∧ ∀ i, i < n + 1 → g (k + i) = f (k + i)) ↔ g k = f k ∧ (m = n ∧ ∀ i, i < n → g (k + 1 + i) = f (k + 1 + i)) := by
      constructor
      · rintro ⟨h1, h2⟩
        exact ⟨h2 0 (by omega), by omega, fun i h4 => by have := h2 (i + 1) (by omega); rwa [show k + (i + 1) = k + 1 + i by omega] at this⟩
      · rintro ⟨h0, h1, h2⟩
        refine ⟨by omega, fun i h4 => ?_⟩
        cases i with
        | zero => exact h0
        | succ i => have := h2 i (by omega); rwa [show k + (i + 1) = k + 1 + i by omega]
    simp only [hP]
    cases hf : f k with
    | true =>
      simp only [if_true]
      rw [Tr.sub_one, Tr.sub_one]
      cases hg : g k with
      | true =>
        simp only [if_true, true_and]
        rw [Tr.prune_act, Tr.dropT_act]
      | false =>
        simp only [Bool.false_eq_true, if_false, false_and]
    | false =>
      simp only [Bool.false_eq_true, if_false]
      rw [Tr.sub_one, Tr.sub_one]
      cases hg : g k with
      | true =>
        simp only [if_true, Bool.true_eq_false, false_and, if_false]
      | false =>
        simp only [Bool.false_eq_true, if_false, true_and]
        rw [Tr.prune_act, Tr.dropT_act]

theorem Tr.prune_full {t : Tr} (h : t.cfull) : t.prune.full := by
  rcases t.prune_cases with ⟨_, e⟩ | ⟨hb, e⟩
  · rw [e]; exact trivial
  · rw [e]
    cases t with
    | nil => exact trivial
    | nd q a l r =>
      refine ⟨fun ha => ?_, h.1, h.2⟩
      by_cases hl : l = .nil
      · by_cases hr : r = .nil
        · rw [Tr.bare_iff.2 ⟨ha, hl, hr⟩] at hb; cases hb
        · exact .inr hr
      · exact .inl hl

theorem Tr.dropT_cfull {f : Nat → Bool} : ∀ {n k : Nat} {t : Tr}, t.cfull → (Tr.dropT f k n t).cfull
  | n, k, .nil, _ => by cases n <;> rw [Tr.dropT] <;> exact trivial
  | 0, _, .nd _ _ _ _, h => h
  | n + 1, k, .nd q a l r, h => by
    rw [Tr.dropT_one]
    split
    · exact ⟨h.1, Tr.prune_full (Tr.dropT_cfull (Tr.full_c h.2))⟩
    · exact ⟨Tr.prune_full (Tr.dropT_cfull (Tr.full_c h.1)), h.2⟩

theorem Tr.prune_ok {k : Nat} {t : Tr} (h : t.ok k) : t.prune.ok k := by
  rcases t.prune_cases with ⟨_, e⟩ | ⟨_, e⟩ <;> rw [e]
  · exact trivial
  · exact h

theorem Tr.dropT_ok {f : Nat → Bool} : ∀ {n k j : Nat} {t : Tr}, t.ok j → (Tr.dropT f k n t).ok j
  | n, k, j, .nil, _ => by cases n <;> rw [Tr.dropT] <;> exact trivial
  | 0, _, _, .nd _ _ _ _, h => h
  | n + 1, k, j, .nd q a l r, h => by
    rw [Tr.dropT_one]
    obtain ⟨h1, h2, h3⟩ := h
    split
    · exact ⟨h1, h2, Tr.prune_ok (Tr.dropT_ok h3)⟩
    · exact ⟨h1, Tr.prune_ok (Tr.dropT_ok h2), h3⟩

/-- The table behind Drop. -/
theorem drop_list {w : Int} {t t' : Tr} {L : List Ro} (hok : t.ok 0) (hL : t.list 0#64 0#64 0 = L) (htb : TB w L) (hok' : t'.ok 0) {p : Pf} (hrp : riP w p = true)
    (h : ∀ g n, (Tr.sub g 0 n t').act = if n = p.len.toNat ∧ (∀ i, i < p.len.toNat → g (0 + i) = bitAt p.a p.b (0 + i)) then 0 else (Tr.sub g 0 n t).act) : t'.list 0#64 0#64 0 = drR L p := by
  obtain ⟨hw, k0, k1, hz⟩ := riP_iff.1 hrp
  have hz' : zFrom p.a p.b p.len.toNat := fun i hi hk => hz i hi (by omega)
  refine tb_ext (Tr.list_sorted _ hok' (fun i _ _ => bitAt_zero i)) (drR_tb htb p).sorted fun x => ?_
  rw [mem_drR, ← hL, Tr.mem_in hok', Tr.mem_in hok, h]
  have heq : 0 ≤ x.p.len → x.p.len ≤ 128 → zFrom x.p.a x.p.b x.p.len.toNat → ((x.p.len.toNat = p.len.toNat ∧ ∀ i, i < p.len.toNat → bitAt x.p.a x.p.b (0 + i) = bitAt p.a p.b (0 + i)) ↔ x.p = p) := fun h0 h1 hzx => by
    constructor
    · rintro ⟨c1, c2⟩
      have : x.p.a = p.a ∧ x.p.b = p.b := bitAt_eq fun i hi => by
        by_cases hik : i < p.len.toNat
        · have := c2 i (by omega); rwa [Nat.zero_add] at this
        · rw [hzx i hi (by omega), hz' i hi (by omega)]
      have hl : x.p.len = p.len := by omega
      obtain ⟨⟨xa, xb, xl⟩, xv⟩ := x
      obtain ⟨ra, rb, rl⟩ := p
      simp_all
    · intro e; rw [e]; exact ⟨rfl, fun _ _ => rfl⟩
  constructor
  · rintro ⟨⟨h0, h1, hzx⟩, h2, h3⟩
    split at h2
    · exact absurd h2.symm h3
    · rename_i hc
      exact ⟨⟨⟨h0, h1, hzx⟩, h2, h3⟩, fun e => hc ((heq h0 h1 hzx).2 e)⟩
  · rintro ⟨⟨⟨h0, h1, hzx⟩, h2, h3⟩, hne⟩
    exact ⟨⟨h0, h1, hzx⟩, by rw [if_neg fun hc => hne ((heq h0 h1 hzx).1 hc)]; exact h2, h3⟩

end Go.Sx.M
namespace Go.Proofs.Ytfpofdlpgocnlaa.L1
open Go.Sx Go.Sx.M

def dpH (w len : Int) : List Hint := [.cell (.int .i64 w), .fork [] [.fork [] [.cell (.int .i64 len), .nw, .wrc [50]]]]

noncomputable def dpCs : List (FuncId × Sx.Spec) := [(44, genSpec [none, none] rightF), (20, memR [none, none] getF), (50, memW [none, none, none, none] (shrinkF 200))]

theorem drop_run (nb : Nat) (m : List AV) (w len : Int) (a b : BitVec 64) (k : Int) (R : List AV → AV → Prop) : run dpCs Try.prog 31 [.val (.pointer (some ⟨nb, 0, none⟩)), .agg [.w64 a, .w64 b, .int .i64 k]] [some ⟨true, memTy, 0, true, m⟩] (dpH w len) (turnsR R) =
    (Option.isSome (some (Addr.mk nb (0 : Nat) none)) = true ∧ sure (some (Addr.mk nb (0 : Nat) none)) = true ∧ mread m (shift (some (Addr.mk nb (0 : Nat) none)) (0 : Nat)) false (1 : Nat) = some (AV.int IntKind.i64 w) ∧ ((!rightB w a b k) = true → R m (AV.int IntKind.i64 (1 : Int))) ∧ ((!rightB w a b k) = false → ∃ (w : Int), ∃ (nb_1 : Nat), ∃ (len_1 : Int), ∃ (nds : Int), ∃ (t : Tr), TrV w nb_1 len_1 nds t m ∧ some (Addr.mk nb (0 : Nat) none) = some (Addr.mk nb_1 (0 : Nat) none) ∧ ((!Decidable.decide (Tr.act (nodeAt w t (Pf.mk a b k)) ≠ (0 : Int))) = true → R m (AV.int IntKind.i64 (2 : Int))) ∧ ((!Decidable.decide (Tr.act (nodeAt w t (Pf.mk a b k)) ≠ (0 : Int))) = false → Option.isSome (some (Addr.mk nb (0 : Nat) none)) = true ∧ sure (some (Addr.mk nb (0 : Nat) none)) = true ∧ mread m (shift (some (Addr.mk nb (0 : Nat) none)) (4 : Nat)) false (1 : Nat) = some (AV.int IntKind.i64 len) ∧ inRange IntKind.i64 (len - (1 : Int)) ∧ Option.isSome (some (Addr.mk nb (0 : Nat) none)) = true ∧ sure (some (Addr.mk nb (0 : Nat) none)) = true ∧ Option.isSome (mwrite m (shift (some (Addr.mk nb (0 : Nat) none)) (4 : Nat)) (AV.int IntKind.i64 (len - (1 : Int)))) = true ∧ Option.isSome (some (Addr.mk nb (0 : Nat) none)) = true ∧ sure (some (Addr.mk nb (0 : Nat) none)) = true ∧ ∃ (w : Int), ∃ (nb_2 : Nat), ∃ (lenT : Int), ∃ (t : Tr), ∃ (i : Nat), (0 : Int) = (↑i : Int) ∧ (↑i : Int) ≤ k ∧ k ≤ (128 : Int) ∧ Int.toNat k + (1 : Nat) ≤ i + (200 : Nat) ∧ TrB w nb_2 lenT (↑(Tr.size t) : Int) t (mwr m (shift (some (Addr.mk nb (0 : Nat) none)) (4 : Nat)) (AV.int IntKind.i64 (len - (1 : Int)))) ∧ Tr.size t ≤ (1000000 : Nat) ∧ Tr.sub (bitAt a b) (0 : Nat) (Int.toNat k) t ≠ Tr.nil ∧ some (Addr.mk nb (0 : Nat) none) = some (Addr.mk nb_2 (0 : Nat) none) ∧ shift (some (Addr.mk nb (0 : Nat) none)) (1 : Nat) = Tr.ptr (Tr.sub (bitAt a b) (0 : Nat) i t) ∧ ∀ (m' : List AV), TrB w nb_2 lenT (↑(Tr.size (Tr.shr (bitAt a b) i (Int.toNat k) t)) : Int) (Tr.shr (bitAt a b) i (Int.toNat k) t) m' → R m' (AV.int IntKind.i64 (0 : Int))))) := by kernel_rfl

noncomputable def newCs : List (FuncId × Sx.Spec) := [(51, genSpec [none] pfamF)]

theorem new_run (w : Int) : run newCs Try.prog 32 [.int .i64 w] [] [.fork [] []] (yields (.many [.obj trT [.int .i64 w], .v (.int .i64 0)])) =
    (((!Decidable.decide (w = (32 : Int) ∨ w = (128 : Int))) = true → False) ∧ ((!Decidable.decide (w = (32 : Int) ∨ w = (128 : Int))) = false → (nat_lit 84 = nat_lit 84 ∧ ∃ (w_1 : Int), ∃ (cs : List AV), [AV.int IntKind.i64 w] = [AV.int IntKind.i64 w_1] ∧ [some (Blk.mk true (nat_lit 84) (6 : Nat) true [AV.agg [AV.int IntKind.i64 w, AV.val (Value.pointer none), AV.val (Value.pointer none), AV.int IntKind.i64 (0 : Int), AV.int IntKind.i64 (0 : Int), AV.int IntKind.i64 (1 : Int)]])] = [some (Blk.mk true (nat_lit 84) (6 : Nat) true [AV.agg cs])] ∧ List.map canon1 cs = [AV.int IntKind.i64 w_1, AV.val (Value.pointer none), AV.val (Value.pointer none), AV.int IntKind.i64 (0 : Int), AV.int IntKind.i64 (0 : Int), AV.int IntKind.i64 (1 : Int)]) ∧ AV.int IntKind.i64 (0 : Int) = AV.int IntKind.i64 (0 : Int) ∧ True)) := by kernel_rfl

theorem newbad_run (w : Int) (r : AV) : run newCs Try.prog 32 [.int .i64 w] [] [.fork [] []] (yields (.v r)) =
    (((!Decidable.decide (w = (32 : Int) ∨ w = (128 : Int))) = true → AV.tuple [AV.val (Value.pointer none), AV.int IntKind.i64 (1 : Int)] = r) ∧ ((!Decidable.decide (w = (32 : Int) ∨ w = (128 : Int))) = false → AV.tuple [AV.ptr (List.length ([] : List AV)) (0 : Nat) (0 : Nat) true, AV.int IntKind.i64 (0 : Int)] = r)) := by kernel_rfl

def dropF : List AV → List Arg → (List AV → AV → Prop) → Prop
  | m, [.v (.val (.pointer q)), .v (.agg [.w64 a, .w64 b, .int .i64 k])], R => ∃ (w : Int) (nb : Nat) (t : Tr) (L : List Ro), TrT w nb m t L ∧ q = some ⟨nb, 0, none⟩ ∧
      ∀ m' t', TrT w nb m' t' (dT w L false ⟨⟨a, b, k⟩, 0⟩) → R m' (.int .i64 (dE w L false ⟨⟨a, b, k⟩, 0⟩))
  | _, _, _ => False

theorem dpCs_ok : ∀ e ∈ dpCs, SpecOK Try.prog e.1 e.2 := by
  intro e he
  simp only [dpCs, List.mem_cons, List.not_mem_nil, or_false] at he
  rcases he with rfl | rfl | rfl
  · exact pright_ok
  · exact get_ok
  · exact shrink_ok

theorem drop_ok : SpecOK Try.prog 31 (memW [none, none] dropF) := by
  refine memW_ok (run_ok (l := dpCs) dpCs_ok mixed noNG) fun m l R hF => ?_
  unfold dropF at hF
  split at hF
  · rename_i q a b k
    obtain ⟨w, nb, t, L, hT, rfl, hR⟩ := hF
    obtain ⟨len, nds, hV⟩ := hT.v
    refine ⟨dpH w len, ?_⟩
    show run dpCs Try.prog _ [.val (.pointer (some ⟨nb, 0, none⟩)), .agg [.w64 a, .w64 b, .int .i64 k]] [some ⟨true, memTy, 0, true, m⟩] _ _
    rw [drop_run]
    have hlenL : len = (L.length : Int) := by rw [hV.len, hT.list]
    refine ⟨rfl, rfl, hV.width, fun h => ?_, fun h => ?_⟩
    · have h : rightB w a b k = false := by simpa using h
      have h : riP w ⟨a, b, k⟩ = false := h
      have e1 : dT w L false ⟨⟨a, b, k⟩, 0⟩ = L := by unfold dT; rw [h]; rfl
      have e3 : dE w L false ⟨⟨a, b, k⟩, 0⟩ = 1 := by unfold dE; rw [h]; rfl
      have := hR m t (by rw [e1]; exact hT)
      rw [e3] at this
      exact this
    · have h : rightB w a b k = true := by simpa using h
      have hrp : riP w ⟨a, b, k⟩ = true := h
      obtain ⟨hw, k0, k1, _⟩ := riP_iff.1 hrp
      have k0 : 0 ≤ k := k0
      have k1 : k ≤ w := k1
      obtain ⟨g1, g2⟩ := get_eq hT ⟨a, b, k⟩
      rw [if_pos hrp] at g2
      have hnodes := trt_nodes hT
      have hsz := hV.nds
      have e1 : dT w L false ⟨⟨a, b, k⟩, 0⟩ = if (fdR L ⟨a, b, k⟩).isSome then drR L ⟨a, b, k⟩ else L := by unfold dT; rw [hrp]; rfl
      have e3 : dE w L false ⟨⟨a, b, k⟩, 0⟩ = if (fdR L ⟨a, b, k⟩).isSome then 0 else 2 := by unfold dE; rw [hrp]; rfl
      refine ⟨w, nb, len, nds, t, hV, rfl, fun hn => ?_, fun hs => ?_⟩
      · have hn : (fdR L ⟨a, b, k⟩).isSome = false := by rw [← g2]; simpa using hn
        rw [hn, if_neg (by decide)] at e1 e3
        have := hR m t (by rw [e1]; exact hT)
        rw [e3] at this
        exact this
      · have hs' : (nodeAt w t ⟨a, b, k⟩).act ≠ 0 := by simpa using hs
        have hs : (fdR L ⟨a, b, k⟩).isSome = true := by rw [← g2]; simpa using hs
        rw [hs, if_pos rfl] at e1 e3
        have hm := hT.tb.most
        obtain ⟨f1, f2, f3, f4⟩ := hV.b.field (i := 4) (.inl rfl) (len - 1)
        have hB : TrB w nb (len - 1) (t.size : Int) t (mwr m (shift (some ⟨nb, 0, none⟩) 4) (.int .i64 (len - 1))) := by
          rw [← hsz]
          exact ⟨f2, hV.b.root, f3, hV.b.apart, f4⟩
        have hsubn : Tr.sub (bitAt a b) 0 k.toNat t ≠ .nil := fun e => by
          unfold nodeAt at hs'
          rw [if_pos hrp] at hs'
          exact hs' (by show (Tr.sub (bitAt a b) 0 k.toNat t).act = 0; rw [e]; rfl)
        refine ⟨rfl, rfl, TrV.at4 hV, inR (by omega) (by omega), rfl, rfl, f1, rfl, rfl, w, nb, len - 1, t, 0, rfl, by omega, by omega, by omega, hB, by omega, hsubn, rfl, ?_, fun m' hB' => ?_⟩
        · rw [zero_read hV]; rfl
        · have e : Tr.shr (bitAt a b) 0 k.toNat t = Tr.dropT (bitAt a b) 0 k.toNat t := rfl
          rw [e] at hB'
          have hok' : (Tr.dropT (bitAt a b) 0 k.toNat t).ok 0 := Tr.dropT_ok hT.ok
          have hlist := drop_list hT.ok hT.list hT.tb hok' hrp (fun g n => Tr.dropT_act (f := bitAt a b) (g := g) (n := k.toNat) (k := 0) (m := n) (t := t))
          have hlen : (drR L ⟨a, b, k⟩).length + 1 = L.length := by
            rcases fdR_cases L ⟨a, b, k⟩ with ⟨e, _⟩ | ⟨x, hx, hxp, _⟩
            · rw [e] at hs; cases hs
            · rw [← hxp]; exact drR_found hT.tb hx
          have hT' : TrT w nb m' (Tr.dropT (bitAt a b) 0 k.toNat t) (drR L ⟨a, b, k⟩) := ⟨⟨_, _, hB'.v (Tr.dropT_cfull hV.cfull) (by rw [hlist]; omega) rfl⟩, hlist, drR_tb hT.tb _⟩
          have := hR m' _ (by rw [e1]; exact hT')
          rw [e3] at this
          exact this
  · exact hF.elim

theorem newCs_ok : ∀ e ∈ newCs, SpecOK Try.prog e.1 e.2 := by
  intro e he
  simp only [newCs, List.mem_cons, List.not_mem_nil, or_false] at he
  subst he
  exact pfam_ok

theorem new_ok : SpecOK Try.prog 32 (genSpec [none] gnew7F) := by
  refine genSpec_ok (run_ok (l := newCs) newCs_ok mixed noNG) fun l R hF => ?_
  unfold gnew7F at hF
  split at hF
  · rename_i w
    by_cases hw : w = 32 ∨ w = 128
    · refine ⟨_, hF.1 hw, rfl, [.fork [] []], ?_⟩
      show run newCs Try.prog _ [.int .i64 w] [] _ _
      rw [new_run, decide_eq_true hw]
      exact ⟨fun h => (by cases h), fun _ => ⟨⟨rfl, w, _, rfl, rfl, rfl⟩, rfl, trivial⟩⟩
    · refine ⟨_, hF.2 hw, rfl, [.fork [] []], ?_⟩
      show run newCs Try.prog _ [.int .i64 w] [] _ _
      rw [newbad_run, decide_eq_false hw]
      exact ⟨fun _ => rfl, fun h => by cases h⟩
  · exact hF.elim

end Go.Proofs.Ytfpofdlpgocnlaa.L1
end

section
/-
  Layer 7: what stands behind a trie: of one that is raw memory, a tree; of a new one, its fields.
-/
namespace Go.Sx.M
open Go.Proofs.Ytfpofdlpgocnlaa.L1

/-- Raw memory that stands for a trie's state; its value's block. -/
def TrX (es : List AV) (b : Nat) (m : List AV) : Prop := ∃ w len nds t, TrV w b len nds t m ∧ es = .int .i64 w :: (t.list 0#64 0#64 0).map roE

theorem TrV.raw {w : Int} {b : Nat} {len nds : Int} {t : Tr} {m : List AV} (h : TrV w b len nds t m) : rawI trTy (.int .i64 w :: (t.list 0#64 0#64 0).map roE) m := by
  obtain ⟨act, L, R, rfl, hI⟩ := h.i
  exact ⟨rfl, w, b, act, L, R, len, nds, hI, by rw [Tr.rows_eq]⟩

theorem mblk_inj {b b' : Nat} {t t' : TypeId} {cs cs' : List AV} (h : mblk b t cs = mblk b' t' cs') : b = b' := by
  unfold mblk at h
  simp only [AV.tuple.injEq, List.cons.injEq, AV.lit.injEq, Value.int.injEq, true_and] at h
  omega

theorem canon_cells {ρ : List Loc} : ∀ {cs : List AV} {vs : List Value}, AVRs ρ cs vs → (∀ c ∈ cs.map canon1, c.plain1 = true) → AVRs [] (cs.map canon1) vs
  | _, _, .nil, _ => .nil
  | _, _, .cons h0 h1, hp => .cons (AVR.plain1 (hp _ (List.mem_map_of_mem List.mem_cons_self)) (canon1_rel h0)).1 (canon_cells h1 fun c hc => hp c (by rw [List.map_cons]; exact List.mem_cons_of_mem _ hc))

theorem trOpens : OpensR trTy TrX := by
  intro es b own w h
  cases h with
  | raw m hm hR =>
    rcases hm with ⟨e, _⟩ | ⟨_, w', b', act, L, R, len, nds, hI, rfl⟩
    · exact absurd e (by decide)
    · have hV := hI.v
      have hb : b' = b := by
        obtain ⟨t, cs, l, e⟩ := hI.head
        obtain ⟨x, hx, rfl⟩ := hR.hd
        cases m with
        | nil => cases hx
        | cons y m =>
          cases hx
          rw [memE, List.map_cons] at e
          exact (mblk_inj (List.cons.inj e).1).symm
      subst hb
      exact ⟨m, ⟨w', len, nds, _, hV, by rw [Tr.rows_eq]⟩, hR⟩
  | mk h ρ o hr hl hrow hobj hat hobjs hsep hown hhd =>
    obtain ⟨_, w', cs, rfl, rfl, hcs⟩ := hr
    obtain ⟨l, hl0, hoff, rfl⟩ := hhd
    obtain ⟨_, hb⟩ := hrow 0 _ l rfl hl0
    obtain ⟨cur, ty, fr, h1, h2, h3⟩ := hb.row
    obtain ⟨rfl, rfl, _, _, _, _, _⟩ := h3 rfl
    obtain ⟨e1, _, e3⟩ := h2 0 (.agg cs) rfl
    obtain ⟨hin, hlt⟩ := hown 0 l.b ⟨l, hl0, .inl ⟨_, rfl, rfl⟩⟩
    have e1 : cs.length = 6 := e1
    have e3 : ∀ (o : Nat) (c : AV), cs[o]? = some c → ∃ v, cur[l.off + 0 * 6 + o]? = some v ∧ AVR [] c v := e3
    have hvals : AVRs [] (cs.map canon1) (cur.toList.take (cs.map canon1).length) := by
      have key : ∀ (cs' : List AV) (n : Nat), (∀ (o : Nat) (c : AV), cs'[o]? = some c → ∃ v, cur.toList[n + o]? = some v ∧ AVR [] c v) → AVRs [] (cs'.map canon1) ((cur.toList.drop n).take cs'.length) := by
        intro cs'
        induction cs' with
        | nil => intro n _; rw [List.length_nil, List.take_zero]; exact .nil
        | cons c cs' ih =>
          intro n hk
          obtain ⟨v, hv, hr⟩ := hk 0 c rfl
          have hv : cur.toList[n]? = some v := hv
          obtain ⟨hn, hv'⟩ := List.getElem?_eq_some_iff.1 hv
          rw [List.drop_eq_getElem_cons hn, List.length_cons, List.take_succ_cons, hv', List.map_cons]
          refine .cons (canon1_rel hr) (ih (n + 1) fun o c' hc => ?_)
          have := hk (o + 1) c' hc
          rwa [show n + (o + 1) = n + 1 + o by omega] at this
      have := key cs 0 fun o c hc => by
        obtain ⟨v, hv, hr⟩ := e3 o c hc
        refine ⟨v, ?_, hr⟩
        rw [hoff] at hv
        simpa using hv
      rw [List.length_map]
      simpa using this
    have hm : memE [⟨l.b, trTy, cs.map canon1⟩] = [mblk l.b trTy [.int .i64 w', .val (.pointer none), .val (.pointer none), .int .i64 0, .int .i64 0, .int .i64 1]] := by
      unfold memE
      rw [hcs]
      rfl
    refine ⟨[⟨l.b, trTy, cs.map canon1⟩], ⟨w', 0, 1, .nd ⟨l.b, 1, none⟩ 0 .nil .nil, ?_, rfl⟩, ?_⟩
    · rw [hm]
      have hg : mget [mblk l.b trTy [.int .i64 w', .val (.pointer none), .val (.pointer none), .int .i64 0, .int .i64 0, .int .i64 1]] l.b = some [.int .i64 w', .val (.pointer none), .val (.pointer none), .int .i64 0, .int .i64 0, .int .i64 1] := by rw [mget_new, if_pos rfl]
      refine ⟨⟨_, _, _, hg⟩, ⟨0, .nil, .nil, rfl, trivial, trivial, trivial, trivial⟩, ⟨?_, rfl, trivial, trivial⟩, ?_, rfl, rfl, ⟨_, _, _, rfl⟩⟩
      · unfold mread
        simp only [hg]
        rfl
      · exact by simp [Tr.blks]
    · refine ⟨by simp, fun x hx => ?_, ⟨_, rfl, rfl⟩⟩
      obtain rfl := List.mem_singleton.1 hx
      exact ⟨hin, cur, h1, hvals⟩

end Go.Sx.M
namespace Go.Proofs.Ytfpofdlpgocnlaa.L1
open Go.Sx Go.Sx.M

/-- Of a state whose rows are a table: a trie of it. -/
theorem trx_trt {w : Int} {l : List AV} {b : Nat} {m : List AV} (h : TrX (.int .i64 w :: l) b m) (_ : l = (deR l).map roE) (ht : tbR w (deR l) = true) : ∃ t, TrT w b m t (deR l) := by
  obtain ⟨w', len, nds, t, hV, e⟩ := h
  obtain ⟨e1, e2⟩ := List.cons.inj e
  cases e1
  refine ⟨t, ⟨len, nds, hV⟩, ?_, tbR_iff.1 ht⟩
  rw [e2, deR_map]

theorem trt_raw {w : Int} {b : Nat} {m : List AV} {t : Tr} {L : List Ro} (h : TrT w b m t L) : rawI trTy (.int .i64 w :: L.map roE) m := by
  obtain ⟨len, nds, hV⟩ := h.v
  have := hV.raw
  rwa [h.list] at this

end Go.Proofs.Ytfpofdlpgocnlaa.L1
end

section
/-
  Layer 7: what the contracts of the program's calls on a trie say of its state.
-/
namespace Go.Proofs.Ytfpofdlpgocnlaa.L1
open Go.Sx Go.Sx.M

theorem gwidth7_ok : SpecOK Try.prog 17 (readSpec trT [] gwidth7F) :=
  readOut (n := 0) trOpens width_ok fun es b m xs R R' hX hf hF => by
    unfold gwidth7F at hF
    split at hF
    · obtain ⟨w', len, nds, t, hV, e⟩ := hX
      obtain ⟨e1, _⟩ := List.cons.inj e
      cases e1
      exact ⟨_, b, len, nds, t, hV, rfl, hf _ rfl hF⟩
    · exact hF.elim

theorem glen7_ok : SpecOK Try.prog 14 (readSpec trT [] glen7F) :=
  readOut (n := 0) trOpens lent_ok fun es b m xs R R' hX hf hF => by
    unfold glen7F at hF
    split at hF
    · obtain ⟨e, htb, hR⟩ := hF
      obtain ⟨t, hT⟩ := trx_trt hX e htb
      obtain ⟨len, nds, hV⟩ := hT.v
      refine ⟨_, b, len, nds, t, hV, rfl, ?_⟩
      rw [hV.len, hT.list]
      exact hf _ rfl hR
    · exact hF.elim

theorem gchain7_ok : SpecOK Try.prog 18 (readSpec trT [] gchain7F) :=
  readOut (n := 0) trOpens chain_ok fun es b m xs R R' hX hf hF => by
    unfold gchain7F at hF
    split at hF
    · obtain ⟨e, htb, hR⟩ := hF
      obtain ⟨t, hT⟩ := trx_trt hX e htb
      exact ⟨_, b, t, _, hT, rfl, hf _ rfl hR⟩
    · exact hF.elim

theorem gtable7_ok : SpecOK Try.prog 13 (readSpec trT [] gtable7F) :=
  readOut (n := 0) trOpens table_ok fun es b m xs R R' hX hf hF => by
    unfold gtable7F at hF
    split at hF
    · obtain ⟨e, htb, hR⟩ := hF
      obtain ⟨t, hT⟩ := trx_trt hX e htb
      exact ⟨_, b, t, _, hT, rfl, hf _ trivial hR⟩
    · exact hF.elim

theorem gget7_ok : SpecOK Try.prog 20 (readSpec trT [none] gget7F) :=
  readOut (n := 1) trOpens get_ok fun es b m xs R R' hX hf hF => by
    unfold gget7F at hF
    split at hF
    · rename_i w l a c k
      obtain ⟨e, htb, hR⟩ := hF
      obtain ⟨t, hT⟩ := trx_trt hX e htb
      obtain ⟨len, nds, hV⟩ := hT.v
      refine ⟨_, b, len, nds, t, hV, rfl, ?_⟩
      obtain ⟨h1, h2⟩ := get_eq hT ⟨a, c, k⟩
      rw [h1, h2]
      exact hf _ rfl hR
    · exact hF.elim

theorem gbest7_ok : SpecOK Try.prog 21 (readSpec trT [none] gbest7F) :=
  readOut (n := 1) trOpens best_ok fun es b m xs R R' hX hf hF => by
    unfold gbest7F at hF
    split at hF
    · obtain ⟨e, htb, hR⟩ := hF
      obtain ⟨t, hT⟩ := trx_trt hX e htb
      exact ⟨_, b, t, _, hT, rfl, hf _ rfl hR⟩
    · exact hF.elim

theorem gcover7_ok : SpecOK Try.prog 22 (readSpec trT [none] gcover7F) :=
  readOut (n := 1) trOpens cover_ok fun es b m xs R R' hX hf hF => by
    unfold gcover7F at hF
    split at hF
    · obtain ⟨e, htb, hR⟩ := hF
      obtain ⟨t, hT⟩ := trx_trt hX e htb
      exact ⟨_, b, t, _, hT, rfl, hf _ rfl hR⟩
    · exact hF.elim

theorem gput7_ok : SpecOK Try.prog 33 (mutSpec trT [none] gput7F) :=
  mutOut (n := 1) trOpens put_ok fun es b m xs R hX hF => by
    unfold gput7F at hF
    split at hF
    · obtain ⟨e, htb, hR⟩ := hF
      obtain ⟨t, hT⟩ := trx_trt hX e htb
      exact ⟨_, b, t, _, hT, rfl, fun m' t' hT' => ⟨rfl, _, trt_raw hT', hR⟩⟩
    · exact hF.elim

theorem gdrop7_ok : SpecOK Try.prog 31 (mutSpec trT [none] gdrop7F) :=
  mutOut (n := 1) trOpens drop_ok fun es b m xs R hX hF => by
    unfold gdrop7F at hF
    split at hF
    · obtain ⟨e, htb, hR⟩ := hF
      obtain ⟨t, hT⟩ := trx_trt hX e htb
      exact ⟨_, b, t, _, hT, rfl, fun m' t' hT' => ⟨rfl, _, trt_raw hT', hR⟩⟩
    · exact hF.elim

end Go.Proofs.Ytfpofdlpgocnlaa.L1
end

section
/-
  Layer 7: a trie has the document's nodes.
-/
namespace Go.Sx.M
open Go.Proofs.Ytfpofdlpgocnlaa.L1

/-- Every node with number 1. -/
def Tr.ones : Tr → Tr
  | .nil => .nil
  | .nd q _ l r => .nd q 1 l.ones r.ones

theorem Tr.ones_length : ∀ (t : Tr) (a b : BitVec 64) (k : Nat), (t.ones.list a b k).length = t.size
  | .nil, _, _, _ => rfl
  | .nd q act l r, a, b, k => by
    show ((if (1 : Int) = 0 then [] else [_]) ++ (l.ones.list a b (k + 1) ++ r.ones.list (onA a k) (onB b k) (k + 1))).length = 1 + l.size + r.size
    rw [if_neg (by decide), List.length_append, List.length_append, Tr.ones_length l, Tr.ones_length r, List.length_singleton]
    omega

theorem Tr.ones_sub {f : Nat → Bool} : ∀ {n k : Nat} {t : Tr}, Tr.sub f k n t.ones = (Tr.sub f k n t).ones
  | 0, _, _ => rfl
  | n + 1, k, .nil => by rw [Tr.sub_nil, show Tr.nil.ones = .nil from rfl, Tr.sub_nil]
  | n + 1, k, .nd q a l r => by
    rw [Tr.sub_one, show (Tr.nd q a l r).ones = .nd q 1 l.ones r.ones from rfl, Tr.sub_one]
    cases f k
    · exact Tr.ones_sub
    · exact Tr.ones_sub

theorem Tr.ones_act (t : Tr) : (t.ones.act = 1 ∧ t ≠ .nil) ∨ (t.ones.act = 0 ∧ t = .nil) := by
  cases t with
  | nil => exact .inr ⟨rfl, rfl⟩
  | nd => exact .inl ⟨rfl, fun e => by cases e⟩

theorem Tr.ones_ok : ∀ {t : Tr} {k : Nat}, t.ok k → t.ones.ok k
  | .nil, _, _ => trivial
  | .nd _ _ _ _, _, h => ⟨h.1, Tr.ones_ok h.2.1, Tr.ones_ok h.2.2⟩

theorem Tr.mem_ones {t : Tr} (hok : t.ok 0) (p : Pf) : p ∈ (t.ones.list 0#64 0#64 0).map Ro.p ↔ (0 ≤ p.len ∧ p.len ≤ 128 ∧ zFrom p.a p.b p.len.toNat) ∧ Tr.sub (bitAt p.a p.b) 0 p.len.toNat t ≠ .nil := by
  rw [List.mem_map]
  constructor
  · rintro ⟨x, hx, rfl⟩
    obtain ⟨h1, h2, h3⟩ := (Tr.mem_in (Tr.ones_ok hok) x).1 hx
    rw [Tr.ones_sub] at h2
    rcases Tr.ones_act (Tr.sub (bitAt x.p.a x.p.b) 0 x.p.len.toNat t) with ⟨_, h⟩ | ⟨h, _⟩
    · exact ⟨h1, h⟩
    · rw [h] at h2; exact absurd h2.symm h3
  · rintro ⟨h1, h2⟩
    refine ⟨⟨p, 1⟩, (Tr.mem_in (Tr.ones_ok hok) ⟨p, 1⟩).2 ⟨h1, ?_, (by decide : (1 : Int) ≠ 0)⟩, rfl⟩
    rw [Tr.ones_sub]
    rcases Tr.ones_act (Tr.sub (bitAt p.a p.b) 0 p.len.toNat t) with ⟨h, _⟩ | ⟨_, h⟩
    · exact h
    · exact absurd h h2

theorem Tr.ones_nodup {t : Tr} (hok : t.ok 0) : ((t.ones.list 0#64 0#64 0).map Ro.p).Nodup := by
  have := Tr.list_sorted t.ones (Tr.ones_ok hok) (fun i _ _ => bitAt_zero i)
  rw [List.Nodup, List.pairwise_map]
  exact this.imp fun h e => by rw [e, cpP_self] at h; exact absurd h (by decide)

theorem nodup_le {α : Type} [DecidableEq α] : ∀ {l m : List α}, l.Nodup → (∀ x ∈ l, x ∈ m) → l.length ≤ m.length
  | [], _, _, _ => Nat.zero_le _
  | x :: l, m, hn, h => by
    obtain ⟨hx, hn⟩ := List.nodup_cons.1 hn
    have hm := h x List.mem_cons_self
    have := nodup_le (l := l) (m := m.erase x) hn fun y hy => (List.mem_erase_of_ne fun (e : y = x) => hx (e ▸ hy)).2 (h y (List.mem_cons_of_mem _ hy))
    rw [List.length_erase_of_mem hm] at this
    have h0 : 0 < m.length := List.length_pos_of_mem hm
    rw [List.length_cons]
    omega

theorem nodup_same {α : Type} [DecidableEq α] {l m : List α} (hl : l.Nodup) (hm : m.Nodup) (h : ∀ x, x ∈ l ↔ x ∈ m) : l.length = m.length :=
  Nat.le_antisymm (nodup_le hl fun x hx => (h x).1 hx) (nodup_le hm fun x hx => (h x).2 hx)

theorem mem_ndA {all : List Pf} {p q : Pf} : q ∈ ndA all p ↔ q ∈ all ∨ q = p := by
  unfold ndA
  split
  · exact ⟨.inl, fun h => by rcases h with h | rfl; exact h; assumption⟩
  · rw [List.mem_append, List.mem_singleton]

theorem ndA_nodup {all : List Pf} {p : Pf} (h : all.Nodup) : (ndA all p).Nodup := by
  unfold ndA
  split
  · exact h
  · rename_i hp
    rw [List.nodup_append]
    exact ⟨h, by simp, fun a ha b hb e => hp (by rw [← List.mem_singleton.1 hb, ← e]; exact ha)⟩

theorem mem_ndL {all : List Pf} {p q : Pf} : ∀ {k : Nat}, q ∈ ndL all p k ↔ q ∈ all ∨ ∃ j : Nat, 1 ≤ j ∧ j ≤ k ∧ q = mkP p (j : Int)
  | 0 => ⟨.inl, fun h => by rcases h with h | ⟨j, h1, h2, _⟩; exact h; omega⟩
  | k + 1 => by
    unfold ndL
    rw [mem_ndA, mem_ndL]
    constructor
    · rintro ((h | ⟨j, h1, h2, h3⟩) | h)
      · exact .inl h
      · exact .inr ⟨j, h1, by omega, h3⟩
      · exact .inr ⟨k + 1, by omega, Nat.le_refl _, h⟩
    · rintro (h | ⟨j, h1, h2, h3⟩)
      · exact .inl (.inl h)
      · rcases Nat.lt_or_eq_of_le h2 with h | rfl
        · exact .inl (.inr ⟨j, h1, by omega, h3⟩)
        · exact .inr h3

theorem ndL_nodup {all : List Pf} {p : Pf} (h : all.Nodup) : ∀ {k : Nat}, (ndL all p k).Nodup
  | 0 => h
  | _ + 1 => by unfold ndL; exact ndA_nodup (ndL_nodup h)

theorem mem_ndT {l : List Ro} {q : Pf} : q ∈ ndT l ↔ q = ⟨0#64, 0#64, 0⟩ ∨ ∃ x ∈ l, ∃ j : Nat, 1 ≤ j ∧ j ≤ x.p.len.toNat ∧ q = mkP x.p (j : Int) := by
  have key : ∀ (l : List Ro) (all : List Pf), q ∈ l.foldl (fun all x => ndL all x.p x.p.len.toNat) all ↔ q ∈ all ∨ ∃ x ∈ l, ∃ j : Nat, 1 ≤ j ∧ j ≤ x.p.len.toNat ∧ q = mkP x.p (j : Int) := by
    intro l
    induction l with
    | nil => intro all; exact ⟨.inl, fun h => by rcases h with h | ⟨x, hx, _⟩; exact h; cases hx⟩
    | cons x l ih =>
      intro all
      rw [List.foldl_cons, ih, mem_ndL]
      constructor
      · rintro ((h | ⟨j, h⟩) | ⟨y, hy, h⟩)
        · exact .inl h
        · exact .inr ⟨x, List.mem_cons_self, j, h⟩
        · exact .inr ⟨y, List.mem_cons_of_mem _ hy, h⟩
      · rintro (h | ⟨y, hy, j, h⟩)
        · exact .inl (.inl h)
        · rcases List.mem_cons.1 hy with rfl | hy
          · exact .inl (.inr ⟨j, h⟩)
          · exact .inr ⟨y, hy, j, h⟩
  unfold ndT
  rw [key, List.mem_singleton]

theorem ndT_nodup (l : List Ro) : (ndT l).Nodup := by
  have key : ∀ (l : List Ro) (all : List Pf), all.Nodup → (l.foldl (fun all x => ndL all x.p x.p.len.toNat) all).Nodup := by
    intro l
    induction l with
    | nil => intro all h; exact h
    | cons x l ih => intro all h; rw [List.foldl_cons]; exact ih _ (ndL_nodup h)
  exact key l _ (by simp)

theorem Tr.sub_full {f : Nat → Bool} : ∀ {n k : Nat} {t : Tr}, t.full → (Tr.sub f k n t).full
  | 0, _, _, h => h
  | n + 1, k, .nil, _ => by rw [Tr.sub_nil]; exact trivial
  | n + 1, k, .nd q a l r, h => by
    rw [Tr.sub_one]
    refine Tr.sub_full ?_
    split
    · exact h.2.2
    · exact h.2.1

/-- Its nodes are the document's. -/
theorem size_nodes {w : Int} {nb : Nat} {m : List AV} {t : Tr} {L : List Ro} (h : TrT w nb m t L) : (t.size : Int) = ndR L := by
  have hok := h.ok
  obtain ⟨len, nds, hV⟩ := h.v
  have hcf := hV.cfull
  have hne : t ≠ .nil := fun e => by have := hV.ptr; rw [e] at this; cases this
  have htb := h.tb
  obtain ⟨_, rfl, _⟩ := h
  unfold ndR
  rw [← Tr.ones_length t 0#64 0#64 0, ← List.length_map (f := Ro.p)]
  congr 1
  refine nodup_same (Tr.ones_nodup hok) (ndT_nodup _) fun p => ?_
  rw [Tr.mem_ones hok, mem_ndT]
  constructor
  · rintro ⟨⟨h0, h1, hz⟩, hs⟩
    rcases Nat.eq_zero_or_pos p.len.toNat with hn | hn
    · left
      have : p.a = 0#64 ∧ p.b = 0#64 := bitAt_eq fun i hi => by rw [hz i hi (by omega), bitAt_zero]
      have hl : p.len = 0 := by omega
      obtain ⟨a, b, k⟩ := p
      simp_all
    · right
      have hfull : (Tr.sub (bitAt p.a p.b) 0 p.len.toNat t).full := by
        cases t with
        | nil => exact absurd rfl hne
        | nd q a l r =>
          obtain ⟨d, hd⟩ : ∃ d, p.len.toNat = d + 1 := ⟨p.len.toNat - 1, by omega⟩
          rw [hd, Tr.sub_one]
          refine Tr.sub_full ?_
          split
          · exact hcf.2
          · exact hcf.1
      obtain ⟨x, hx, _⟩ := Tr.full_some _ (a := p.a) (b := p.b) (k := p.len.toNat) hfull hs
      have hoks := Tr.ok_sub (f := bitAt p.a p.b) p.len.toNat 0 t hok
      rw [Nat.zero_add] at hoks
      obtain ⟨n, e1, e2, e3, e4, e5, e6⟩ := (Tr.mem_list _ hoks hz x).1 hx
      have hxl : x.p.len.toNat = p.len.toNat + n := by omega
      have hcg : Tr.sub (bitAt x.p.a x.p.b) 0 p.len.toNat t = Tr.sub (bitAt p.a p.b) 0 p.len.toNat t := Tr.sub_congr _ _ _ fun i _ hi => e3 i (by omega) (by omega)
      refine ⟨x, (Tr.mem_in hok x).2 ⟨⟨by omega, by omega, by rw [hxl]; exact e4⟩, ?_, e6⟩, p.len.toNat, hn, by omega, ?_⟩
      · rw [hxl, Tr.sub_add, hcg, Nat.zero_add]; exact e5
      · have hl := cutP_len (a := x.p.a) (b := x.p.b) (k := p.len.toNat) (by omega)
        have hbits : p.a = (cutP x.p.a x.p.b p.len.toNat).a ∧ p.b = (cutP x.p.a x.p.b p.len.toNat).b := bitAt_eq fun i hi => by
          rw [cutP_bit _ _ _ hi]
          by_cases hik : i < p.len.toNat
          · rw [decide_eq_true hik, Bool.and_true, e3 i hi hik]
          · rw [decide_eq_false hik, Bool.and_false, hz i hi (by omega)]
        show p = cutP x.p.a x.p.b p.len.toNat
        generalize cutP x.p.a x.p.b p.len.toNat = c at hl hbits
        obtain ⟨a, b, k⟩ := p
        obtain ⟨a', b', k'⟩ := c
        simp_all
        omega
  · rintro (rfl | ⟨x, hx, j, h1, h2, rfl⟩)
    · exact ⟨⟨Int.le_refl _, by decide, fun i _ _ => bitAt_zero i⟩, hne⟩
    · obtain ⟨⟨g0, g1, gz⟩, g2, g3⟩ := (Tr.mem_in hok x).1 hx
      have hl : (mkP x.p (j : Int)).len = (j : Int) := cutP_len (a := x.p.a) (b := x.p.b) (k := j) (by omega)
      have hbit : ∀ i, i < 128 → bitAt (mkP x.p (j : Int)).a (mkP x.p (j : Int)).b i = (bitAt x.p.a x.p.b i && decide (i < j)) := fun i hi => cutP_bit x.p.a x.p.b j hi
      rw [hl, Int.toNat_natCast]
      refine ⟨⟨by omega, by omega, fun i hi hj => by rw [hbit i hi, decide_eq_false (by omega), Bool.and_false]⟩, fun e => ?_⟩
      have hcg : Tr.sub (bitAt (mkP x.p (j : Int)).a (mkP x.p (j : Int)).b) 0 j t = Tr.sub (bitAt x.p.a x.p.b) 0 j t := Tr.sub_congr _ _ _ fun i _ hi => by rw [hbit i (by omega), decide_eq_true (by omega), Bool.and_true]
      rw [hcg] at e
      rw [show x.p.len.toNat = j + (x.p.len.toNat - j) by omega, Tr.sub_add, e, Tr.sub_nil] at g2
      exact g3 g2.symm

end Go.Sx.M
namespace Go.Proofs.Ytfpofdlpgocnlaa.L1
open Go.Sx Go.Sx.M

theorem gnodes7_ok : SpecOK Try.prog 15 (readSpec trT [] gnodes7F) :=
  readOut (n := 0) trOpens nodes_ok fun es b m xs R R' hX hf hF => by
    unfold gnodes7F at hF
    split at hF
    · obtain ⟨e, htb, hR⟩ := hF
      obtain ⟨t, hT⟩ := trx_trt hX e htb
      have hsz := size_nodes hT
      obtain ⟨len, nds, hV⟩ := hT.v
      refine ⟨_, b, len, nds, t, hV, rfl, ?_⟩
      rw [hV.nds, hsz]
      exact hf _ rfl hR
    · exact hF.elim

end Go.Proofs.Ytfpofdlpgocnlaa.L1
end

section
/-
  Layer 7: the laws' calls all hold.
-/
namespace Go.Proofs.Ytfpofdlpgocnlaa.L1
open Go.Sx Go.Sx.M

theorem t7Cs_ok : ∀ e ∈ t7Cs, SpecOK Try.prog e.1 e.2 := by
  intro e he
  simp only [t7Cs, List.mem_cons, List.not_mem_nil, or_false] at he
  rcases he with rfl | rfl | rfl
  · exact new_ok
  · exact gput7_ok
  · exact gdrop7_ok

theorem awake7Cs_ok : ∀ e ∈ awake7Cs, SpecOK Try.prog e.1 e.2 := by
  intro e he
  simp only [awake7Cs, List.mem_cons, List.not_mem_nil, or_false] at he
  rcases he with rfl | rfl | rfl | rfl | rfl | rfl
  · exact pmake_ok
  · exact new_ok
  · exact gput7_ok
  · exact gnodes7_ok
  · exact glen7_ok
  · exact gbest7_ok

theorem l7Cs_ok : ∀ e ∈ l7Cs, SpecOK Try.prog e.1 e.2 := by
  intro e he
  simp only [l7Cs, List.mem_cons, List.not_mem_nil, or_false] at he
  rcases he with rfl | rfl | rfl | rfl | rfl | rfl | rfl | rfl | rfl | rfl | rfl | rfl | rfl | rfl | rfl | rfl | rfl | rfl | rfl | rfl | rfl | rfl | rfl | rfl | rfl
  · exact awake7_of awake7Cs_ok
  · exact fam7_ok
  · exact run7_of t7Cs_ok
  · exact new_ok
  · exact gput7_ok
  · exact gdrop7_ok
  · exact gwidth7_ok
  · exact glen7_ok
  · exact gnodes7_ok
  · exact gchain7_ok
  · exact gtable7_ok
  · exact gget7_ok
  · exact gcover7_ok
  · exact gbest7_ok
  · exact of6_ok
  · exact one6_ok
  · exact same6_ok
  · exact rright_ok
  · exact rcovers_ok
  · exact rrtable_ok
  · exact rrfind_ok
  · exact rrbest_ok
  · exact rrcover_ok
  · exact rrchain_ok
  · exact rnodes7_ok

end Go.Proofs.Ytfpofdlpgocnlaa.L1
end

