/-
  Texts in one: L10A L10B L10M L10D.
-/
import Derived.Test.YtnjbgbdcbejciaaMa
import Derived.Test.YtnjbgbdcbejciaaL4I
import Derived.Test.YtnjbgbdcbejciaaL5a
import Derived.Test.YtnjbgbdcbejciaaL9a
import Derived.Test.YtnjbgbdcbejciaaL2S

section
/-
  Layer 10: the document's Simple, Merge, Of.
-/
namespace Go.Proofs.Ytnjbgbdcbejciaa.L1
open Go.Sx Go.Sx.M

end Go.Proofs.Ytnjbgbdcbejciaa.L1
end

section
/-
  Layer 10: the document's Of and Build; the law's same.
-/
namespace Go.Proofs.Ytnjbgbdcbejciaa.L1
open Go.Sx Go.Sx.M

/-- A route's entry. -/
def rtOE (r : Ro) : En := ⟨r.p.a &&& mkW r.p.len, r.p.b &&& mkW (r.p.len - 64), mkW r.p.len, mkW (r.p.len - 64), clamp r.p.len, r.act⟩

/-- A table's entries. -/
def bdE (l : List Ro) (m : Int) : List En :=
  if m = 0 then srE (l.map rtOE) else if m = 1 then srE ((kpR l).map rtOE) else if m = 2 then mrE ((kpR l).map rtOE) else []

theorem bd_not {l : List Ro} {m : Int} (h : m < 0 ∨ m > 2) : bdE l m = [] := by
  unfold bdE
  rw [if_neg (by omega), if_neg (by omega), if_neg (by omega)]

end Go.Proofs.Ytnjbgbdcbejciaa.L1
end

section
/-
  Layer 10: a table's entries: plain mathematics.
-/
namespace Go.Proofs.Ytnjbgbdcbejciaa.L1
open Go.Sx Go.Sx.M

theorem rt_match (r : Ro) (c d : BitVec 64) : mtE (rtOE r) c d = mtP r.p c d := by
  rw [Bool.eq_iff_iff, mtP_iff]
  unfold mtE
  rw [wmB_iff]
  refine forall_congr' fun i => forall_congr' fun hi => ?_
  show bitAt (mkW r.p.len) (mkW (r.p.len - 64)) i = true → bitAt (r.p.a &&& mkW r.p.len) (r.p.b &&& mkW (r.p.len - 64)) i = bitAt c d i ↔ _
  rw [bitAt_cut _ _ _ hi, bitAt_mk _ hi, decide_eq_true_eq]
  exact ⟨fun h hk => by have := h hk; rw [decide_eq_true hk, Bool.and_true] at this; exact this, fun h hk => by rw [decide_eq_true hk, Bool.and_true]; exact h hk⟩

theorem rt_len {w : Int} {r : Ro} (h : riP w r.p = true) (hw : w ≤ 128) : (rtOE r).len = r.p.len := by
  obtain ⟨_, h0, h1, _⟩ := riP_iff.1 h
  exact clamp_iff.2 ⟨h0, by omega⟩

/-- Two routes of a table that are as long do not meet. -/
theorem rt_apart {l : List Ro} (h : TB 128 l) {x y : Ro} (hx : x ∈ l) (hy : y ∈ l) (hl : (rtOE x).len = (rtOE y).len) (hm : meE (rtOE x) (rtOE y) = true) : x = y := by
  have hrx := h.rip hx
  have hry := h.rip hy
  rw [rt_len hrx (Int.le_refl _), rt_len hry (Int.le_refl _)] at hl
  have key : mtP y.p x.p.a x.p.b = true := mtP_iff.2 fun i hi hil => by
    unfold meE at hm
    rw [wtB_iff] at hm
    have := hm i hi (by show bitAt (mkW x.p.len) (mkW (x.p.len - 64)) i = true; rw [bitAt_mk _ hi, decide_eq_true_eq]; omega) (by show bitAt (mkW y.p.len) (mkW (y.p.len - 64)) i = true; rw [bitAt_mk _ hi, decide_eq_true_eq]; exact hil)
    have this : bitAt (x.p.a &&& mkW x.p.len) (x.p.b &&& mkW (x.p.len - 64)) i = bitAt (y.p.a &&& mkW y.p.len) (y.p.b &&& mkW (y.p.len - 64)) i := this
    rw [bitAt_cut _ _ _ hi, bitAt_cut _ _ _ hi, decide_eq_true (show (i : Int) < x.p.len by omega), decide_eq_true hil, Bool.and_true, Bool.and_true] at this
    exact this.symm
  have := riP_eq hrx hry hl (mtP_own x.p) key
  exact h.one hx hy this

theorem rt_simple {l : List Ro} (h : TB 128 l) : siE (l.map rtOE) = true := by
  rw [siE_pair, List.pairwise_map]
  refine h.sorted.imp_of_mem fun {x y} hx hy hxy hl => ?_
  cases e : meE (rtOE x) (rtOE y) with
  | false => rfl
  | true =>
    have := rt_apart h hx hy hl e
    subst this
    rw [cpP_self] at hxy; omega

theorem rt_tell {l : List Ro} (h : TB 128 l) (c d : BitVec 64) : tlI (l.map rtOE) c d = tlR l c d := by
  have hc := siE_clear (rt_simple h) c d
  unfold tlR
  rcases bsR_tb h c d with ⟨h1, h2⟩ | ⟨x, hx, h1, h2, h3⟩
  · rw [h1]
    rcases tl_cases (l.map rtOE) c d with ⟨e, _⟩ | ⟨u, hu, hum, _, _⟩
    · exact e
    · obtain ⟨r, hr, rfl⟩ := List.mem_map.1 hu
      rw [rt_match, h2 r hr] at hum; cases hum
  · rw [h1]
    refine tl_of hc (x := rtOE x) (List.mem_map_of_mem hx) (by rw [rt_match]; exact h2) fun u hu hum => ?_
    obtain ⟨r, hr, rfl⟩ := List.mem_map.1 hu
    rw [rt_match] at hum
    rw [rt_len (h.rip hr) (Int.le_refl _), rt_len (h.rip hx) (Int.le_refl _)]
    exact h3 r hr hum

/-- P10.2: a table's entries, in each mode. -/
theorem bd_spec {l : List Ro} (h : TB 128 l) {m : Int} (h0 : 0 ≤ m) (h1 : m ≤ 2) : siE (bdE l m) = true ∧ orE (bdE l m) = true ∧ ∀ c d, tlI (bdE l m) c d = tlR l c d := by
  have sorted : ∀ k : List En, siE k = true → siE (srE k) = true ∧ orE (srE k) = true ∧ ∀ c d, tlI (srE k) c d = tlI k c d := fun k hk => by
    have hs : siE (srE k) = true := by rw [siE_perm (srE_perm k)]; exact hk
    exact ⟨hs, sorted_ordered (srE_sorted k), fun c d => tell_perm (srE_perm k) (siE_clear hs c d)⟩
  have hk := kpR_tb h
  have ht : ∀ c d, tlI ((kpR l).map rtOE) c d = tlR l c d := fun c d => by rw [rt_tell hk, kpR_tell h]
  unfold bdE
  split
  · obtain ⟨a, b, c⟩ := sorted _ (rt_simple h)
    exact ⟨a, b, fun x y => by rw [c, rt_tell h]⟩
  · split
    · obtain ⟨a, b, c⟩ := sorted _ (rt_simple hk)
      exact ⟨a, b, fun x y => by rw [c, ht]⟩
    · rw [if_pos (by omega)]
      obtain ⟨a, c⟩ := mrE_simple (rt_simple hk)
      exact ⟨a, sorted_ordered (mrE_sorted _), fun x y => by rw [c, ht]⟩

theorem bd_len0 (l : List Ro) : (bdE l 0).length = l.length := by
  unfold bdE
  rw [if_pos rfl, srE_length, List.length_map]
theorem bd_len1 (l : List Ro) : (bdE l 1).length = (kpR l).length := by
  unfold bdE
  rw [if_neg (by decide), if_pos rfl, srE_length, List.length_map]
theorem bd_len2 (l : List Ro) : (bdE l 2).length ≤ (kpR l).length := by
  unfold bdE
  rw [if_neg (by decide), if_neg (by decide), if_pos rfl]
  have := (mrE_length ((kpR l).map rtOE)).1
  rw [List.length_map] at this
  exact this
theorem bd_len (l : List Ro) (m : Int) : (bdE l m).length ≤ l.length := by
  have hk := (kpR_sub l).length_le
  by_cases h0 : m = 0
  · subst h0; rw [bd_len0]; exact Nat.le_refl _
  · by_cases h1 : m = 1
    · subst h1; rw [bd_len1]; exact hk
    · by_cases h2 : m = 2
      · subst h2; exact Nat.le_trans (bd_len2 l) hk
      · rw [show bdE l m = [] from by unfold bdE; rw [if_neg h0, if_neg h1, if_neg h2]]
        exact Nat.zero_le _

end Go.Proofs.Ytnjbgbdcbejciaa.L1
end

section
/-
  Layer 10: what the contracts of the program's calls say; what the document fixes of two halves.
-/
namespace Go.Proofs.Ytnjbgbdcbejciaa.L1
open Go.Sx Go.Sx.M

def gmerge10F : List Arg → (Res → Prop) → Prop
  | [.row r_l], R => r_l = (deE r_l).map enE ∧ (deE r_l).length ≤ 1000000 ∧ R (.vrow 42 6 ((mrE (deE r_l)).map enE))
  | _, _ => False

def gbuild10F : List Arg → (Res → Prop) → Prop
  | [.row r_l, .v (.int .i64 m)], R => r_l = (deR r_l).map roE ∧ ((deR r_l).length ≤ 1000000 ∧ tbR 128 (deR r_l) = true) ∧ R (.vrow 42 6 ((bdE (deR r_l) m).map enE))
  | _, _ => False

theorem awake_ex {C : Sx.Call} (hC : COK Try.prog false C) {f : FuncId} (h : ∃ hs, C f [] [] hs (comesTo (.bool true))) : SpecOK Try.prog f awakeSpec := by
  obtain ⟨hs, r⟩ := h
  exact awake_ok hC r

end Go.Proofs.Ytnjbgbdcbejciaa.L1
end

