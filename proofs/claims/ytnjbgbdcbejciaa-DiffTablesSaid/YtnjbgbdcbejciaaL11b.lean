/-
  Texts in one: L11M L11P L11R L11S L11I L11J L11Q.
-/
import Derived.Test.YtnjbgbdcbejciaaL11a
import Derived.Test.YtnjbgbdcbejciaaL5S
import Derived.Test.YtnjbgbdcbejciaaSxPr
import Derived.Test.YtnjbgbdcbejciaaL11G

section
/-
  Layer 11: what the program's finder finds: the mathematics of the map from entries, without their Action, to where the first one stands.
-/
namespace Go.Proofs.Ytnjbgbdcbejciaa.L1
open Go.Sx Go.Sx.M

/-- An entry without its Action. -/
def zA (x : En) : En := ⟨x.v, x.w, x.m, x.n, x.len, 0⟩

theorem zA_al {x y : En} : zA x = zA y ↔ alE x y = true := by
  unfold zA alE
  simp only [En.mk.injEq, and_true, Bool.and_eq_true, beq_iff_eq]
  constructor
  · rintro ⟨a, b, c, d, e⟩; exact ⟨⟨⟨a, b⟩, c, d⟩, e⟩
  · rintro ⟨⟨⟨a, b⟩, c, d⟩, e⟩; exact ⟨a, b, c, d, e⟩

/-- What was put when those from k on have been gone through, the last one first. -/
def fwL (l : List En) (k : Nat) : List (En × Int) := (List.range' k (l.length - k)).map fun i => (zA (at' l i), (i : Int))

theorem fwL_end (l : List En) : fwL l l.length = [] := by unfold fwL; simp

theorem fwL_next {l : List En} {k : Nat} (h : k < l.length) : fwL l k = (zA (at' l k), (k : Int)) :: fwL l (k + 1) := by
  unfold fwL
  obtain ⟨d, hd⟩ : ∃ d, l.length - k = d + 1 := ⟨l.length - k - 1, by omega⟩
  rw [hd, List.range'_succ, List.map_cons, show l.length - (k + 1) = d from by omega]

theorem fiG_fw (l : List En) (x : En) : ∀ d k, k + d = l.length → (fiG (zA x) (fwL l k) = none ∧ ∀ j, k ≤ j → j < l.length → alE (at' l j) x = false) ∨
    ∃ i : Nat, k ≤ i ∧ i < l.length ∧ fiG (zA x) (fwL l k) = some (i : Int) ∧ alE (at' l i) x = true ∧ ∀ j, k ≤ j → j < i → alE (at' l j) x = false
  | 0, k, h => by
    obtain rfl : k = l.length := by omega
    rw [fwL_end]
    exact .inl ⟨rfl, fun j h1 h2 => by omega⟩
  | d + 1, k, h => by
    rw [fwL_next (by omega), fiG]
    cases ha : alE (at' l k) x with
    | true => exact .inr ⟨k, Nat.le_refl _, by omega, by rw [if_pos (zA_al.2 ha)], ha, fun j h1 h2 => by omega⟩
    | false =>
      rw [if_neg (fun e => by rw [zA_al.1 e] at ha; cases ha)]
      rcases fiG_fw l x d (k + 1) (by omega) with ⟨h1, h2⟩ | ⟨i, h1, h2, h3, h4, h5⟩
      · refine .inl ⟨h1, fun j hj1 hj2 => ?_⟩
        rcases Nat.eq_or_lt_of_le hj1 with rfl | hj1
        · exact ha
        · exact h2 j hj1 hj2
      · refine .inr ⟨i, by omega, h2, h3, h4, fun j hj1 hj2 => ?_⟩
        rcases Nat.eq_or_lt_of_le hj1 with rfl | hj1
        · exact ha
        · exact h5 j hj1 hj2

/-- What is found: where; whether. -/
def fqI (l : List En) (x : En) : Int := (fiG (zA x) (fwL l 0)).getD 0
def fqB (l : List En) (x : En) : Bool := (fiG (zA x) (fwL l 0)).isSome

theorem fq_spec (l : List En) (x : En) : (fqB l x = false ∧ ∀ j, j < l.length → alE (at' l j) x = false) ∨ ∃ i : Nat, i < l.length ∧ fqB l x = true ∧ fqI l x = i ∧ alE (at' l i) x = true ∧ ∀ j, j < i → alE (at' l j) x = false := by
  unfold fqB fqI
  rcases fiG_fw l x l.length 0 (Nat.zero_add _) with ⟨h1, h2⟩ | ⟨i, _, h2, h3, h4, h5⟩
  · exact .inl ⟨by rw [h1]; rfl, fun j hj => h2 j (Nat.zero_le _) hj⟩
  · exact .inr ⟨i, h2, by rw [h3]; rfl, by rw [h3]; rfl, h4, fun j hj => h5 j (Nat.zero_le _) hj⟩

/-- Of one of the row: is it where the first one is that is alike? -/
theorem fq_own {l : List En} {p : Nat} (hp : p < l.length) : (fqI l (at' l p) == (p : Int)) = !(l.take p).any fun y => alE y (at' l p) := by
  rcases fq_spec l (at' l p) with ⟨_, h⟩ | ⟨i, h1, _, h3, h4, h5⟩
  · have := h p hp
    rw [alE_refl] at this; cases this
  · have hip : i ≤ p := Nat.le_of_not_lt fun hlt => by
      have := h5 p hlt
      rw [alE_refl] at this; cases this
    rw [h3]
    rcases Nat.eq_or_lt_of_le hip with rfl | hlt
    · have : (l.take i).any (fun y => alE y (at' l i)) = false := onS_any.2 fun y hy => by
        obtain ⟨j, hj, rfl⟩ := mem_at hy
        rw [List.length_take] at hj
        have e : at' (l.take i) j = at' l j := by unfold at'; rw [List.getD_eq_getElem?_getD, List.getD_eq_getElem?_getD, List.getElem?_take, if_pos (by omega)]
        rw [e]; exact h5 j (by omega)
      rw [this]; simp
    · have : (l.take p).any (fun y => alE y (at' l p)) = true := by
        refine List.any_eq_true.2 ⟨at' l i, ?_, h4⟩
        have e : (l.take p)[i]? = some (at' l i) := by rw [List.getElem?_take, if_pos hlt, at_get h1]
        exact List.mem_of_getElem? e
      rw [this]
      simp only [Bool.not_true, beq_eq_false_iff_ne]
      omega

theorem onS_sub (out : List En) (x : En) : ∀ y ∈ out, y ∈ onS out x := fun y hy => by
  unfold onS
  split
  · exact hy
  · exact List.mem_append_left _ hy

theorem onF_sub : ∀ (m out : List En), ∀ y ∈ out, y ∈ m.foldl onS out
  | [], _, _, hy => hy
  | x :: m, out, y, hy => onF_sub m (onS out x) y (onS_sub out x y hy)

/-- The first one that is alike is taken. -/
theorem first_on {l : List En} {i : Nat} {x : En} (hi : i < l.length) (ha : alE (at' l i) x = true) (hn : ∀ j, j < i → alE (at' l j) x = false) : at' l i ∈ onE l := by
  have h1 : at' l i ∈ onE (l.take (i + 1)) := by
    rw [onE_next hi, if_neg]
    · simp
    · rw [Bool.not_eq_true]
      refine onS_any.2 fun y hy => ?_
      obtain ⟨j, hj, rfl⟩ := mem_at hy
      rw [List.length_take] at hj
      have e : at' (l.take i) j = at' l j := by unfold at'; rw [List.getD_eq_getElem?_getD, List.getD_eq_getElem?_getD, List.getElem?_take, if_pos (by omega)]
      rw [e]
      have h2 := hn j (by omega)
      cases h3 : alE (at' l j) (at' l i) with
      | false => rfl
      | true => rw [alE_trans h3 ha] at h2; cases h2
  have h2 : onE l = (l.drop (i + 1)).foldl onS (onE (l.take (i + 1))) := by
    unfold onE
    rw [← List.foldl_append, List.take_append_drop]
  rw [h2]
  exact onF_sub _ _ _ h1

/-- What is found in a row stands in it once, too. -/
theorem fq_so (l : List En) (x : En) : (fqB l x = false ∧ fiE (soE l) x < 0) ∨ (fqB l x = true ∧ ¬ fiE (soE l) x < 0 ∧ 0 ≤ fqI l x ∧ fqI l x < l.length ∧ at' (soE l) (fiE (soE l) x).toNat = at' l (fqI l x).toNat) := by
  have hp : (soE l).Perm (onE l) := srE_perm _
  have hu : UqE (soE l) := (onE_uq l).perm hp.symm
  rcases fq_spec l x with ⟨h1, h2⟩ | ⟨i, h1, h2, h3, h4, h5⟩
  · refine .inl ⟨h1, ?_⟩
    have : (soE l).any (fun y => alE y x) = false := onS_any.2 fun y hy => by
      have := (onE_spec l).2.1.subset (hp.subset hy)
      obtain ⟨j, hj, rfl⟩ := mem_at this
      exact h2 j hj
    rw [fiE_any] at this
    simpa using this
  · have hm : at' l i ∈ soE l := hp.symm.subset (first_on h1 h4 h5)
    have hany : (soE l).any (fun y => alE y x) = true := List.any_eq_true.2 ⟨_, hm, h4⟩
    have hneg : ¬ fiE (soE l) x < 0 := by
      rw [fiE_any] at hany
      simpa using hany
    refine .inr ⟨h2, hneg, by omega, by omega, ?_⟩
    have hf := fiE_find.2 hneg
    rw [h3, Int.toNat_natCast]
    refine hu.one (List.mem_of_find?_eq_some hf) hm ?_
    have h6 : alE (at' (soE l) (fiE (soE l) x).toNat) x = true := List.find?_some (p := fun y => alE y x) hf
    exact alE_trans h6 (by rw [alE_comm]; exact h4)

end Go.Proofs.Ytnjbgbdcbejciaa.L1
end

section
/-
  Layer 11: the program's Count and Once.
-/
namespace Go.Proofs.Ytnjbgbdcbejciaa.L1
open Go.Sx Go.Sx.M

def cn3 (l : List Sp) : AV := .agg [.int .i64 (ctE 0 l), .int .i64 (ctE 1 l), .int .i64 (ctE 2 l)]
def cnSt (l : List Sp) (p : Nat) : St :=
  ⟨[.any, .any, .ptr 1 0 0 true, .ptr 2 0 0 true, .any, .any, .vsl 0 0 (l.map spE).length, .int .i64 (l.map spE).length, .int .i64 p, .any, .any, .any, .any, .any, .any, .any, .any, .any, .any, .any, .any, .any, .any, .any, .any, .any, .any, .any], [some ⟨false, 59, 7, true, l.map spE⟩, some ⟨true, 50, 3, true, [.agg [.lit (.int .i64 0), .lit (.int .i64 0), .lit (.int .i64 0)]]⟩, some ⟨true, 50, 3, true, [cn3 (l.take p)]⟩]⟩
def cnM0 : Modes := ⟨[0, 0, 1, 1, 0, 0, 1, 1, 2, 0, 0, 0, 0, 0, 0, 0, 0, 0, 0, 0, 0, 0, 0, 0, 0, 0, 0, 0], [0, 1, 2], [1, 1, 2], [], []⟩
def cnM : Modes := ⟨[0, 0, 1, 1, 0, 0, 1, 1, 1, 0, 0, 0, 0, 0, 0, 0, 0, 0, 0, 0, 0, 0, 0, 0, 0, 0, 0, 0], [0, 1, 2], [1, 1, 1], [], []⟩
def cnM' : Modes := ⟨[0, 0, 1, 1, 0, 0, 0, 0, 0, 0, 0, 0, 0, 0, 0, 0, 0, 0, 0, 0, 0, 0, 0, 0, 0, 0, 0, 0], [0, 1, 2], [1, 1, 1], [], []⟩
def cnX (l : List Sp) (p : Nat) : List Hint := [.dy, .cell (.int .i64 (ctE (at' l p).k (l.take p))), .nw, .dy, .rows [cn3 (l.take (p + 1))], .nw]
def cnH (l : List Sp) : List Hint := [.linv _ 0 (cnSt l) (fun p => p ≤ l.length) (fun p => l.length + 1 - p) cnM0 cnM cnM' (fun _ => []) fun p =>
  [.fork [.dy, .cell (spE (at' l p)), .fork [.fork (cnX l p) [.nw]] [.nw]] []]]

/-- What finder makes. -/
def fnD : FuncId := 92

/-- The map's state. -/
def fiR (L : List (En × Int)) : List AV := List.map fiA L

/-- Finder's loop, behind some rows: the map's row is i, its box's i + 1, that of the slice i + 2. -/
def fqSt (l : List En) (h : Hp) (r n : Nat) (y : Nat) (k : Nat) : St :=
  ⟨[.func (.yield y) [] [], .ptr (r + 2) 0 0 true, .any, .int .i64 ((k : Int) - 1), .any, .any, .any, .any, .any, .any, .any, .any, .any, .any, .any, .any, .any, .any, .any], h ++ [some ⟨true, 133, 0, true, fiR (fwL l k)⟩, some ⟨true, 133, 1, false, [.mp r]⟩, some ⟨true, 31, 1, false, [.vsl n 0 (l.map enE).length]⟩]⟩
def fqM0 : Modes := ⟨[1, 1, 0, 1, 0, 0, 0, 0, 0, 0, 0, 0, 0, 0, 0, 0, 0, 0, 0], [], [], [], []⟩
def fqM' : Modes := ⟨[1, 1, 0, 0, 0, 0, 0, 0, 0, 0, 0, 0, 0, 0, 0, 0, 0, 0, 0], [], [], [], []⟩
def fqH (l : List En) (h : Hp) (r n : Nat) : Hint := .inl fun y => [.nw, .linv _ l.length (fqSt l h r n y) (fun k => k ≤ l.length) (fun k => k) fqM0 fqM0 fqM' (fun _ => []) fun k =>
    [.fork [.dy, .cell (enE (at' l (k - 1))), .rows (fiR (fwL l (k - 1))), .nw] []]]

def oqSt (F : List En → List AV) (l : List En) (p : Nat) : St :=
  ⟨[.any, .any, .any, .vsl 3 0 (onE (l.take p)).length, .func (.func fnD) [] [.ptr 1 0 0 true], .any, .any, .any, .any, .any, .any, .vsl 0 0 (l.map enE).length, .int .i64 (l.map enE).length, .int .i64 p, .any, .any, .any, .any, .any, .any, .any, .any, .any, .any, .any, .any, .any, .any, .any, .any, .any, .any, .any],
   [some ⟨false, 42, 6, true, l.map enE⟩, some ⟨true, 133, 1, false, [.mp 2]⟩, some ⟨true, 133, 0, true, fiR (fwL l 0)⟩, some ⟨true, 42, 6, true, F (onE (l.take p))⟩]⟩
def oqM0 : Modes := ⟨[0, 0, 0, 1, 1, 0, 0, 0, 0, 0, 0, 1, 1, 2, 0, 0, 0, 0, 0, 0, 0, 0, 0, 0, 0, 0, 0, 0, 0, 0, 0, 0, 0], [], [], [], [(3, 42, 6)]⟩
def oqM : Modes := ⟨[0, 0, 0, 1, 1, 0, 0, 0, 0, 0, 0, 1, 1, 1, 0, 0, 0, 0, 0, 0, 0, 0, 0, 0, 0, 0, 0, 0, 0, 0, 0, 0, 0], [0, 1, 2, 3], [1, 1, 1, 1], [], []⟩
def oqN : Modes := ⟨[0, 0, 0, 1, 1, 0, 0, 0, 0, 0, 0, 1, 1, 1, 0, 0, 0, 0, 0, 0, 0, 0, 0, 0, 0, 0, 0, 0, 0, 0, 0, 0, 0], [0, 1, 2, 7], [1, 1, 1, 1], [], []⟩
def oqM' : Modes := ⟨[0, 0, 0, 1, 0, 0, 0, 0, 0, 0, 0, 0, 0, 0, 0, 0, 0, 0, 0, 0, 0, 0, 0, 0, 0, 0, 0, 0, 0, 0, 0, 0, 0], [], [], [], []⟩
def oqH (F : List En → List AV) (l : List En) : List Hint :=
  [fqH l [some ⟨false, 42, 6, true, l.map enE⟩] 1 0,
   .linv _ 0 (oqSt F l) (fun p => p ≤ l.length) (fun p => l.length + 1 - p) oqM0 oqM oqM' (fun _ => []) fun p =>
    [.fork [.dy, .cell (enE (at' l p)), .cell (.tuple [.int .i64 (fqI l (at' l p)), .bool (fqB l (at' l p))]), .fork [.rows (F (onE (l.take (p + 1)))), .nw, .md oqN] [.nw]] []]]

theorem cn_rd (a b c : Int) {k : Int} (h : 0 ≤ k) (h2 : k ≤ 2) : (Blk.mk true 50 3 true [.agg [.int .i64 a, .int .i64 b, .int .i64 c]]).read Try.prog 3 0 (0 + k.toNat * 1) = some (.int .i64 (if k = 0 then a else if k = 1 then b else c)) := by
  obtain rfl | rfl | rfl : k = 0 ∨ k = 1 ∨ k = 2 := by omega
  · kernel_rfl
  · kernel_rfl
  · kernel_rfl

theorem cn_wr (a b c x : Int) {k : Int} (h : 0 ≤ k) (h2 : k ≤ 2) : (Blk.mk true 50 3 true [.agg [.int .i64 a, .int .i64 b, .int .i64 c]]).fits 0 (0 + k.toNat * 1) (.int .i64 x) = true ∧
    (Blk.mk true 50 3 true [.agg [.int .i64 a, .int .i64 b, .int .i64 c]]).writes 0 (0 + k.toNat * 1) (.int .i64 x) [.agg [.int .i64 (if k = 0 then x else a), .int .i64 (if k = 1 then x else b), .int .i64 (if k = 2 then x else c)]] := by
  obtain rfl | rfl | rfl : k = 0 ∨ k = 1 ∨ k = 2 := by omega
  · exact ⟨rfl, rfl⟩
  · exact ⟨rfl, rfl⟩
  · exact ⟨rfl, rfl⟩

theorem gcount11_run (l : List Sp) (r : AV) : run [] Try.prog 27 [.vsl 0 0 (l.map spE).length] [some ⟨false, (pSp.getD (0, 0)).1, (pSp.getD (0, 0)).2, true, (l.map spE)⟩] (cnH l) (yields (.v r)) =
    ((St.mk [.any, .any, AV.ptr ((0 : Nat) + (1 : Nat)) 0 0 true, AV.ptr ((0 : Nat) + (1 : Nat) + (1 : Nat)) 0 0 true, .any, .any, AV.vsl 0 0 (List.length (List.map spE l)), AV.int IntKind.i64 (↑(List.length (List.map spE l)) : Int), AV.int IntKind.i64 0, .any, .any, .any, .any, .any, .any, .any, .any, .any, .any, .any, .any, .any, .any, .any, .any, .any, .any, .any] [some (Blk.mk false (59 : TypeId) 7 true (List.map spE l)), some (Blk.mk true 50 3 true [AV.agg [AV.lit (Value.int IntKind.i64 0), AV.lit (Value.int IntKind.i64 0), AV.lit (Value.int IntKind.i64 0)]]), some (Blk.mk true (nat_lit 50) 3 true [AV.agg [AV.int IntKind.i64 0, AV.int IntKind.i64 0, AV.int IntKind.i64 0]])] = cnSt l 0 ∧ Nat.le 0 (List.length l)) ∧ ∀ (p : Nat), Nat.le p (List.length l) → (Decidable.decide ((↑p : Int) < (↑(List.length (List.map spE l)) : Int)) = true → ((0 : Int) ≤ (↑p : Int) ∧ (↑p : Int) < (↑(List.length (List.map spE l)) : Int)) ∧ Blk.read Proofs.Try.prog (Blk.mk false (59 : TypeId) 7 true (List.map spE l)) 59 ((0 : Nat) + Int.toNat (↑p : Int)) 0 = some (AV.agg [AV.int IntKind.i64 (at' l p).1, AV.w64 (Sp.e (at' l p)).1, AV.w64 (Sp.e (at' l p)).2, AV.w64 (Sp.e (at' l p)).3, AV.w64 (Sp.e (at' l p)).4, AV.int IntKind.i64 (Sp.e (at' l p)).5, AV.int IntKind.i64 (Sp.e (at' l p)).6]) ∧ (Decidable.decide ((0 : Int) ≤ (at' l p).1) = true → (Decidable.decide ((at' l p).1 ≤ (2 : Int)) = true → ((0 : Int) ≤ (at' l p).1 ∧ (at' l p).1 < (↑(3 : Nat) : Int)) ∧ Blk.read Proofs.Try.prog (Blk.mk true (50 : TypeId) 3 true [cn3 (List.take p l)]) 3 0 ((0 : Nat) + Int.toNat (at' l p).1 * (1 : Nat)) = some (AV.int IntKind.i64 (↑(ctE (at' l p).1 (List.take p l)) : Int)) ∧ inRange IntKind.i64 ((↑(ctE (at' l p).1 (List.take p l)) : Int) + (1 : Int)) ∧ ((0 : Int) ≤ (at' l p).1 ∧ (at' l p).1 < (↑(3 : Nat) : Int)) ∧ Blk.fits (Blk.mk true (50 : TypeId) 3 true [cn3 (List.take p l)]) 0 ((0 : Nat) + Int.toNat (at' l p).1 * (1 : Nat)) (AV.int IntKind.i64 ((↑(ctE (at' l p).1 (List.take p l)) : Int) + (1 : Int))) = true ∧ Blk.writes (Blk.mk true (50 : TypeId) 3 true [cn3 (List.take p l)]) 0 ((0 : Nat) + Int.toNat (at' l p).1 * (1 : Nat)) (AV.int IntKind.i64 ((↑(ctE (at' l p).1 (List.take p l)) : Int) + (1 : Int))) [cn3 (List.take (p + (1 : Nat)) l)] ∧ inRange IntKind.i64 ((↑p : Int) + (1 : Int)) ∧ ∃ (p' : Nat), St.mk [.any, .any, AV.ptr ((0 : Nat) + (1 : Nat)) 0 0 true, AV.ptr ((0 : Nat) + (1 : Nat) + (1 : Nat)) 0 0 true, .any, .any, AV.vsl 0 0 (List.length (List.map spE l)), AV.int IntKind.i64 (↑(List.length (List.map spE l)) : Int), AV.int IntKind.i64 ((↑p : Int) + (1 : Int)), .any, .any, .any, .any, .any, .any, .any, .any, .any, .any, .any, .any, .any, .any, .any, .any, .any, .any, .any] [some (Blk.mk false (59 : TypeId) 7 true (List.map spE l)), some (Blk.mk true (50 : TypeId) 3 true [AV.agg [AV.lit (Value.int IntKind.i64 0), AV.lit (Value.int IntKind.i64 0), AV.lit (Value.int IntKind.i64 0)]]), some (Blk.mk true (nat_lit 50) 3 true [cn3 (List.take (p + (1 : Nat)) l)])] = cnSt l p' ∧ Nat.le p' (List.length l) ∧ List.length l + (1 : Nat) - p' < List.length l + (1 : Nat) - p) ∧ (Decidable.decide ((at' l p).1 ≤ (2 : Int)) = false → inRange IntKind.i64 ((↑p : Int) + (1 : Int)) ∧ ∃ (p' : Nat), St.mk [.any, .any, AV.ptr ((0 : Nat) + (1 : Nat)) 0 0 true, AV.ptr ((0 : Nat) + (1 : Nat) + (1 : Nat)) 0 0 true, .any, .any, AV.vsl 0 0 (List.length (List.map spE l)), AV.int IntKind.i64 (↑(List.length (List.map spE l)) : Int), AV.int IntKind.i64 ((↑p : Int) + (1 : Int)), .any, .any, .any, .any, .any, .any, .any, .any, .any, .any, .any, .any, .any, .any, .any, .any, .any, .any, .any] [some (Blk.mk false (59 : TypeId) 7 true (List.map spE l)), some (Blk.mk true (50 : TypeId) 3 true [AV.agg [AV.lit (Value.int IntKind.i64 0), AV.lit (Value.int IntKind.i64 0), AV.lit (Value.int IntKind.i64 0)]]), some (Blk.mk true (50 : TypeId) 3 true [cn3 (List.take p l)])] = cnSt l p' ∧ Nat.le p' (List.length l) ∧ List.length l + (1 : Nat) - p' < List.length l + (1 : Nat) - p)) ∧ (Decidable.decide ((0 : Int) ≤ (at' l p).1) = false → inRange IntKind.i64 ((↑p : Int) + (1 : Int)) ∧ ∃ (p' : Nat), St.mk [.any, .any, AV.ptr ((0 : Nat) + (1 : Nat)) 0 0 true, AV.ptr ((0 : Nat) + (1 : Nat) + (1 : Nat)) 0 0 true, .any, .any, AV.vsl 0 0 (List.length (List.map spE l)), AV.int IntKind.i64 (↑(List.length (List.map spE l)) : Int), AV.int IntKind.i64 ((↑p : Int) + (1 : Int)), .any, .any, .any, .any, .any, .any, .any, .any, .any, .any, .any, .any, .any, .any, .any, .any, .any, .any, .any] [some (Blk.mk false (59 : TypeId) 7 true (List.map spE l)), some (Blk.mk true (50 : TypeId) 3 true [AV.agg [AV.lit (Value.int IntKind.i64 0), AV.lit (Value.int IntKind.i64 0), AV.lit (Value.int IntKind.i64 0)]]), some (Blk.mk true (50 : TypeId) 3 true [cn3 (List.take p l)])] = cnSt l p' ∧ Nat.le p' (List.length l) ∧ List.length l + (1 : Nat) - p' < List.length l + (1 : Nat) - p)) ∧ (Decidable.decide ((↑p : Int) < (↑(List.length (List.map spE l)) : Int)) = false → AV.agg [AV.int IntKind.i64 (↑(ctE 0 (List.take p l)) : Int), AV.int IntKind.i64 (↑(ctE 1 (List.take p l)) : Int), AV.int IntKind.i64 (↑(ctE 2 (List.take p l)) : Int)] = r)) := by kernel_rfl

theorem gcount11_ok : SpecOK Try.prog 27 (genSpec [pSp] gcount11F) := by
  refine genSpec_ok none_ok fun l R hF => ?_
  unfold gcount11F at hF
  split at hF
  · rename_i r_l
    obtain ⟨hr_l, hl, hF⟩ := hF
    generalize deSp r_l = l at hr_l hl hF
    subst hr_l
    refine ⟨_, hF, rfl, (cnH l), ?_⟩
    show run [] Try.prog _ [.vsl 0 0 (l.map spE).length] [some ⟨false, (pSp.getD (0, 0)).1, (pSp.getD (0, 0)).2, true, (l.map spE)⟩] _ _
    rw [gcount11_run]
    refine ⟨⟨rfl, Nat.zero_le _⟩, ?_⟩
    intro p (hp0 : p ≤ l.length)
    have hc : ∀ k, ctE k (l.take p) ≤ p := fun k => Nat.le_trans (ctE_le k _) (by rw [List.length_take]; omega)
    have i1 : inRange .i64 ((p : Int) + 1) := inR (by omega) (by omega)
    refine ⟨fun hlt => ?_, fun hge => ?_⟩
    · have hp : p < l.length := by have := of_decide_eq_true hlt; rw [List.length_map] at this; omega
      have B : 0 ≤ (p : Int) ∧ (p : Int) < ((l.map spE).length : Int) := by rw [List.length_map]; omega
      have hx := ctE_next hp
      have stay : ¬ (0 ≤ (at' l p).k ∧ (at' l p).k ≤ 2) → cn3 (l.take p) = cn3 (l.take (p + 1)) := fun h => by
        unfold cn3
        rw [hx 0, hx 1, hx 2, if_neg (by omega), if_neg (by omega), if_neg (by omega)]; rfl
      refine ⟨B, read_rows B.1 B.2 (sp_whole _), fun h0 => ⟨fun h2 => ?_, fun h2 => ⟨i1, p + 1, ?_, hp, by omega⟩⟩, fun h0 => ⟨i1, p + 1, ?_, hp, by omega⟩⟩
      · have h0 : 0 ≤ (at' l p).k := of_decide_eq_true h0
        have h2 : (at' l p).k ≤ 2 := of_decide_eq_true h2
        have hw := cn_wr (ctE 0 (l.take p)) (ctE 1 (l.take p)) (ctE 2 (l.take p)) (ctE (at' l p).k (l.take p) + 1) h0 h2
        have hr := cn_rd (ctE 0 (l.take p)) (ctE 1 (l.take p)) (ctE 2 (l.take p)) h0 h2
        have hcp := hc (at' l p).k
        have e1 : (if (at' l p).k = 0 then (ctE 0 (l.take p) : Int) else if (at' l p).k = 1 then ctE 1 (l.take p) else ctE 2 (l.take p)) = ctE (at' l p).k (l.take p) := by
          obtain h | h | h : (at' l p).k = 0 ∨ (at' l p).k = 1 ∨ (at' l p).k = 2 := by omega
          · rw [h, if_pos rfl]
          · rw [h, if_neg (by omega), if_pos rfl]
          · rw [h, if_neg (by omega), if_neg (by omega)]
        have e2 : (AV.agg [.int .i64 (if (at' l p).k = 0 then (ctE (at' l p).k (l.take p) : Int) + 1 else ctE 0 (l.take p)), .int .i64 (if (at' l p).k = 1 then (ctE (at' l p).k (l.take p) : Int) + 1 else ctE 1 (l.take p)), .int .i64 (if (at' l p).k = 2 then (ctE (at' l p).k (l.take p) : Int) + 1 else ctE 2 (l.take p))]) = cn3 (l.take (p + 1)) := by
          unfold cn3
          rw [hx 0, hx 1, hx 2]
          obtain h | h | h : (at' l p).k = 0 ∨ (at' l p).k = 1 ∨ (at' l p).k = 2 := by omega
          · rw [h]; simp
          · rw [h]; simp
          · rw [h]; simp
        rw [e1] at hr
        rw [e2] at hw
        exact ⟨⟨h0, by omega⟩, hr, inR (by omega) (by omega), ⟨h0, by omega⟩, hw.1, hw.2, i1, p + 1, rfl, hp, by omega⟩
      · have h2 := of_decide_eq_false h2
        unfold cnSt
        rw [stay (by omega)]; rfl
      · have h0 := of_decide_eq_false h0
        unfold cnSt
        rw [stay (by omega)]; rfl
    · have hp : p = l.length := by have := of_decide_eq_false hge; rw [List.length_map] at this; omega
      subst hp
      rw [List.take_length]
  · exact hF.elim


theorem gonce11_run (l : List En) (F : List En → List AV) (es : List AV) : run [] Try.prog 29 [.vsl 0 0 (l.map enE).length] [some ⟨false, (pEn.getD (0, 0)).1, (pEn.getD (0, 0)).2, true, (l.map enE)⟩] (oqH F l) (yields (.vrow 42 6 es)) =
    (∀ (l_1 : Nat), inRange IntKind.i64 ((↑(List.length (List.map enE l)) : Int) - (1 : Int)) ∧ (St.mk [AV.func (Fn.yield l_1) [] [], AV.ptr ((0 : Nat) + (1 : Nat) + (1 : Nat) + (1 : Nat)) 0 0 true, .any, AV.int IntKind.i64 ((↑(List.length (List.map enE l)) : Int) - (1 : Int)), .any, .any, .any, .any, .any, .any, .any, .any, .any, .any, .any, .any, .any, .any, .any] [some (Blk.mk false (42 : TypeId) 6 true (List.map enE l)), some (Blk.mk true 133 0 true []), some (Blk.mk true (nat_lit 133) 1 false [AV.mp ((0 : Nat) + (1 : Nat))]), some (Blk.mk true (nat_lit 31) 1 false [AV.vsl 0 0 (List.length (List.map enE l))])] = fqSt l [some (Blk.mk false (42 : TypeId) 6 true (List.map enE l))] 1 0 l_1 (List.length l) ∧ Nat.le (List.length l) (List.length l)) ∧ ∀ (p : Nat), Nat.le p (List.length l) → (Decidable.decide ((↑p : Int) - (1 : Int) ≥ (0 : Int)) = true → ((0 : Int) ≤ (↑p : Int) - (1 : Int) ∧ (↑p : Int) - (1 : Int) < (↑(List.length (List.map enE l)) : Int)) ∧ Blk.read Proofs.Try.prog (Blk.mk false (42 : TypeId) 6 true (List.map enE l)) 42 ((0 : Nat) + Int.toNat ((↑p : Int) - (1 : Int))) 0 = some (AV.agg [AV.w64 (at' l (p - (1 : Nat))).1, AV.w64 (at' l (p - (1 : Nat))).2, AV.w64 (at' l (p - (1 : Nat))).3, AV.w64 (at' l (p - (1 : Nat))).4, AV.int IntKind.i64 (at' l (p - (1 : Nat))).5, AV.int IntKind.i64 (at' l (p - (1 : Nat))).6]) ∧ l_1 = l_1 ∧ mupd 133 (List.map fiA (fwL l p)) (AV.agg [AV.w64 (at' l (p - (1 : Nat))).1, AV.w64 (at' l (p - (1 : Nat))).2, AV.w64 (at' l (p - (1 : Nat))).3, AV.w64 (at' l (p - (1 : Nat))).4, AV.int IntKind.i64 (at' l (p - (1 : Nat))).5, AV.int IntKind.i64 0]) (AV.int IntKind.i64 ((↑p : Int) - (1 : Int))) (fiR (fwL l (p - (1 : Nat)))) ∧ inRange IntKind.i64 ((↑p : Int) - (1 : Int) - (1 : Int)) ∧ ∃ (p' : Nat), St.mk [AV.func (Fn.yield l_1) [] [], AV.ptr ((0 : Nat) + (1 : Nat) + (1 : Nat) + (1 : Nat)) 0 0 true, .any, AV.int IntKind.i64 ((↑p : Int) - (1 : Int) - (1 : Int)), .any, .any, .any, .any, .any, .any, .any, .any, .any, .any, .any, .any, .any, .any, .any] [some (Blk.mk false (42 : TypeId) 6 true (List.map enE l)), some (Blk.mk true (nat_lit 133) 0 true (fiR (fwL l (p - (1 : Nat))))), some (Blk.mk true (nat_lit 133) 1 false [AV.mp ((0 : Nat) + (1 : Nat))]), some (Blk.mk true (nat_lit 31) 1 false [AV.vsl 0 0 (List.length (List.map enE l))])] = fqSt l [some (Blk.mk false (42 : TypeId) 6 true (List.map enE l))] 1 0 l_1 p' ∧ Nat.le p' (List.length l) ∧ p' < p) ∧ (Decidable.decide ((↑p : Int) - (1 : Int) ≥ (0 : Int)) = false → (St.mk [.any, .any, .any, AV.vsl (List.length [some (Blk.mk false (42 : TypeId) 6 true (List.map enE l)), some (Blk.mk true (nat_lit 133) 1 false [AV.mp ((0 : Nat) + (1 : Nat) + (1 : Nat))]), some (Blk.mk true (133 : TypeId) 0 true (fiR (fwL l p)))]) 0 0, AV.func (Fn.func 92) [] [AV.ptr ((0 : Nat) + (1 : Nat)) 0 0 true], .any, .any, .any, .any, .any, .any, AV.vsl 0 0 (List.length (List.map enE l)), AV.int IntKind.i64 (↑(List.length (List.map enE l)) : Int), AV.int IntKind.i64 0, .any, .any, .any, .any, .any, .any, .any, .any, .any, .any, .any, .any, .any, .any, .any, .any, .any, .any, .any] ([some (Blk.mk false (42 : TypeId) 6 true (List.map enE l)), some (Blk.mk true (nat_lit 133) 1 false [AV.mp ((0 : Nat) + (1 : Nat) + (1 : Nat))]), some (Blk.mk true (133 : TypeId) 0 true (fiR (fwL l p)))] ++ [some (Blk.mk true (42 : TypeId) 6 true [])]) = oqSt F l 0 ∧ Nat.le 0 (List.length l)) ∧ ∀ (p : Nat), Nat.le p (List.length l) → (Decidable.decide ((↑p : Int) < (↑(List.length (List.map enE l)) : Int)) = true → ((0 : Int) ≤ (↑p : Int) ∧ (↑p : Int) < (↑(List.length (List.map enE l)) : Int)) ∧ Blk.read Proofs.Try.prog (Blk.mk false (42 : TypeId) 6 true (List.map enE l)) 42 ((0 : Nat) + Int.toNat (↑p : Int)) 0 = some (AV.agg [AV.w64 (at' l p).1, AV.w64 (at' l p).2, AV.w64 (at' l p).3, AV.w64 (at' l p).4, AV.int IntKind.i64 (at' l p).5, AV.int IntKind.i64 (at' l p).6]) ∧ mlook 133 (List.map fiA (fwL l 0)) (AV.agg [AV.w64 (at' l p).1, AV.w64 (at' l p).2, AV.w64 (at' l p).3, AV.w64 (at' l p).4, AV.int IntKind.i64 (at' l p).5, AV.int IntKind.i64 0]) true (AV.tuple [AV.int IntKind.i64 (fqI l (at' l p)), AV.bool (fqB l (at' l p))]) ∧ ((fqI l (at' l p) == (↑p : Int)) = true → ((List.length (onE (List.take p l)) + (1 : Nat)) * (48 : Nat) ≤ (140737488355328 : Nat) ∧ List.length (onE (List.take p l)) + (1 : Nat) ≤ (9223372036854775807 : Nat) ∧ (0 : Nat) + (1 : Nat) ≤ List.length [AV.agg [AV.w64 (at' l p).1, AV.w64 (at' l p).2, AV.w64 (at' l p).3, AV.w64 (at' l p).4, AV.int IntKind.i64 (at' l p).5, AV.int IntKind.i64 (at' l p).6]] ∧ List.length (onE (List.take p l)) ≤ List.length (F (onE (List.take p l)))) ∧ List.take (List.length (onE (List.take p l))) (F (onE (List.take p l))) ++ [AV.agg [AV.w64 (at' l p).1, AV.w64 (at' l p).2, AV.w64 (at' l p).3, AV.w64 (at' l p).4, AV.int IntKind.i64 (at' l p).5, AV.int IntKind.i64 (at' l p).6]] = F (onE (List.take (p + (1 : Nat)) l)) ∧ inRange IntKind.i64 ((↑p : Int) + (1 : Int)) ∧ ∃ (p' : Nat), St.mk [.any, .any, .any, AV.vsl ((0 : Nat) + (1 : Nat) + (1 : Nat) + (1 : Nat)) 0 (List.length (onE (List.take p l)) + (1 : Nat)), AV.func (Fn.func (nat_lit 92)) [] [AV.ptr ((0 : Nat) + (1 : Nat)) 0 0 true], .any, .any, .any, .any, .any, .any, AV.vsl 0 0 (List.length (List.map enE l)), AV.int IntKind.i64 (↑(List.length (List.map enE l)) : Int), AV.int IntKind.i64 ((↑p : Int) + (1 : Int)), .any, .any, .any, .any, .any, .any, .any, .any, .any, .any, .any, .any, .any, .any, .any, .any, .any, .any, .any] [some (Blk.mk false (42 : TypeId) 6 true (List.map enE l)), some (Blk.mk true (nat_lit 133) 1 false [AV.mp ((0 : Nat) + (1 : Nat) + (1 : Nat))]), some (Blk.mk true (133 : TypeId) 0 true (fiR (fwL l 0))), some (Blk.mk true 42 6 true (F (onE (List.take (p + (1 : Nat)) l))))] = oqSt F l p' ∧ Nat.le p' (List.length l) ∧ List.length l + (1 : Nat) - p' < List.length l + (1 : Nat) - p) ∧ ((fqI l (at' l p) == (↑p : Int)) = false → inRange IntKind.i64 ((↑p : Int) + (1 : Int)) ∧ ∃ (p' : Nat), St.mk [.any, .any, .any, AV.vsl ((0 : Nat) + (1 : Nat) + (1 : Nat) + (1 : Nat)) 0 (List.length (onE (List.take p l))), AV.func (Fn.func (nat_lit 92)) [] [AV.ptr ((0 : Nat) + (1 : Nat)) 0 0 true], .any, .any, .any, .any, .any, .any, AV.vsl 0 0 (List.length (List.map enE l)), AV.int IntKind.i64 (↑(List.length (List.map enE l)) : Int), AV.int IntKind.i64 ((↑p : Int) + (1 : Int)), .any, .any, .any, .any, .any, .any, .any, .any, .any, .any, .any, .any, .any, .any, .any, .any, .any, .any, .any] [some (Blk.mk false (42 : TypeId) 6 true (List.map enE l)), some (Blk.mk true (nat_lit 133) 1 false [AV.mp ((0 : Nat) + (1 : Nat) + (1 : Nat))]), some (Blk.mk true (133 : TypeId) 0 true (fiR (fwL l 0))), some (Blk.mk true (42 : TypeId) 6 true (F (onE (List.take p l))))] = oqSt F l p' ∧ Nat.le p' (List.length l) ∧ List.length l + (1 : Nat) - p' < List.length l + (1 : Nat) - p)) ∧ (Decidable.decide ((↑p : Int) < (↑(List.length (List.map enE l)) : Int)) = false → List.length (onE (List.take p l)) = List.length es ∧ some (Blk.mk true (42 : TypeId) 6 true (F (onE (List.take p l)))) = some (Blk.mk true (42 : TypeId) 6 true es)))) := by kernel_rfl

theorem gonce11_ok : SpecOK Try.prog 29 (genSpec [pEn] gonce11F) := by
  refine genSpec_ok none_ok fun l R hF => ?_
  unfold gonce11F at hF
  split at hF
  · rename_i r_l
    obtain ⟨hr_l, hl, hF⟩ := hF
    generalize deE r_l = l at hr_l hl hF
    subst hr_l
    refine ⟨_, hF, trivial, (oqH (List.map enE) l), ?_⟩
    show run [] Try.prog _ [.vsl 0 0 (l.map enE).length] [some ⟨false, (pEn.getD (0, 0)).1, (pEn.getD (0, 0)).2, true, (l.map enE)⟩] _ _
    rw [gonce11_run]
    intro y
    have hlm : (l.map enE).length = l.length := List.length_map _
    refine ⟨inR (by omega) (by omega), ⟨by unfold fqSt; rw [fwL_end, hlm]; rfl, Nat.le_refl _⟩, ?_⟩
    intro k (hk0 : k ≤ l.length)
    refine ⟨fun hge => ?_, fun hlt => ?_⟩
    · have hk : 0 < k := by have := of_decide_eq_true hge; omega
      have ej : ((k : Int) - 1).toNat = k - 1 := by omega
      have ek : ((k - 1 : Nat) : Int) = (k : Int) - 1 := by omega
      have B : 0 ≤ (k : Int) - 1 ∧ (k : Int) - 1 < ((l.map enE).length : Int) := by omega
      refine ⟨B, read_rows B.1 B.2 (by rw [ej]; exact en_whole _), rfl, ⟨rfl, fwL l k, zA (at' l (k - 1)), (k : Int) - 1, rfl, rfl, rfl, ?_⟩, inR (by omega) (by omega), k - 1, ?_, ?_, by omega⟩
      · have e := fwL_next (l := l) (k := k - 1) (by omega)
        rw [show k - 1 + 1 = k from by omega, ek] at e
        unfold fiR
        rw [e]
      · unfold fqSt
        rw [ek]; rfl
      · show k - 1 ≤ l.length
        omega
    · obtain rfl : k = 0 := by have := of_decide_eq_false hlt; omega
      refine ⟨⟨rfl, Nat.zero_le _⟩, ?_⟩
      intro p (hp0 : p ≤ l.length)
      have ho : (onE (l.take p)).length ≤ p := Nat.le_trans (onE_spec _).2.1.length_le (by rw [List.length_take]; omega)
      have hom : ((onE (l.take p)).map enE).length = (onE (l.take p)).length := List.length_map _
      have i1 : inRange .i64 ((p : Int) + 1) := inR (by omega) (by omega)
      refine ⟨fun hlt => ?_, fun hge => ?_⟩
      · have hp : p < l.length := by have := of_decide_eq_true hlt; omega
        have B : 0 ≤ (p : Int) ∧ (p : Int) < ((l.map enE).length : Int) := by omega
        have hx := onE_next hp
        have hf := fq_own hp
        refine ⟨B, read_rows B.1 B.2 (en_whole _), ⟨rfl, fwL l 0, zA (at' l p), rfl, rfl, rfl⟩, fun h => ?_, fun h => ?_⟩
        · rw [hf] at h
          rw [if_neg (by simpa using h)] at hx
          have hl1 : (onE (l.take (p + 1))).length = (onE (l.take p)).length + 1 := by rw [hx, List.length_append]; rfl
          refine ⟨⟨by omega, by omega, Nat.le_refl _, by omega⟩, ?_, i1, p + 1, ?_, hp, by omega⟩
          · rw [List.take_of_length_le (by omega), hx, List.map_append]; rfl
          · unfold oqSt
            rw [hl1]; rfl
        · rw [hf] at h
          rw [if_pos (by simpa using h)] at hx
          refine ⟨i1, p + 1, ?_, hp, by omega⟩
          unfold oqSt
          rw [hx]; rfl
      · have hp : p = l.length := by have := of_decide_eq_false hge; omega
        subst hp
        rw [List.take_length]
        exact ⟨(List.length_map _).symm, rfl⟩
  · exact hF.elim


end Go.Proofs.Ytnjbgbdcbejciaa.L1
end

section
/-
  Layer 11: the program's Steps.
-/
namespace Go.Proofs.Ytnjbgbdcbejciaa.L1
open Go.Sx Go.Sx.M

theorem st_u (o : List En) (y : En) : stU (soE o) y = if fqB o y = false then [⟨0, y⟩] else if (at' o (fqI o y).toNat).act = y.act then [] else [⟨1, y⟩] := by
  rw [stU_fi]
  rcases fq_so o y with ⟨h1, h2⟩ | ⟨h1, h2, _, _, h5⟩
  · rw [if_pos h2, if_pos h1]
  · rw [if_neg h2, if_neg (show ¬ fqB o y = false by rw [h1]; simp), h5]

theorem st_v (n : List En) (x : En) : stV (soE n) x = if fqB n x = false then [⟨2, x⟩] else [] := by
  rw [stV_fi]
  rcases fq_so n x with ⟨h1, h2⟩ | ⟨h1, h2, _, _, _⟩
  · rw [if_pos h2, if_pos h1]
  · rw [if_neg h2, if_neg (show ¬ fqB n x = false by rw [h1]; simp)]

/-- Rows of entries, and of steps. -/
def enR (L : List En) : List AV := List.map enE L
def spR (L : List Sp) : List AV := List.map spE L

def sgU (o n : List En) (p : Nat) : List Sp := suU (soE o) (soE n) p
/-- All steps but those of the first row's first k entries. -/
def sgV (o n : List En) (k : Nat) : List Sp := suV (soE o) (soE n) ((soE o).length - k)

def sgO (o : List En) : Option Blk := some ⟨false, 42, 6, true, o.map enE⟩
def sgE (l : List En) : Option Blk := some ⟨true, 42, 6, true, enR l⟩
def sgP (l : List Sp) : Option Blk := some ⟨true, 59, 7, true, spR l⟩
def sgF (l : List En) : Option Blk := some ⟨true, 133, 0, true, fiR (fwL l 0)⟩
def sgC (r : Nat) : Option Blk := some ⟨true, 133, 1, false, [.mp r]⟩
def sgB (r n : Nat) : Option Blk := some ⟨true, 31, 1, false, [.vsl r 0 n]⟩
def sgN : Option Blk := some ⟨true, 46, 1, true, [.lit (.slice none 0 0)]⟩
def sgS (r n : Nat) : Option Blk := some ⟨true, 46, 1, false, [.vsl r 0 n]⟩
def sgG (r : Nat) : Option Blk := some ⟨true, 105, 1, false, [.func (.func fnD) [] [.ptr r 0 0 true]]⟩

def sgS1 (o n : List En) (p : Nat) : St :=
  ⟨[.vsl 0 0 (o.map enE).length, .any, .any, .any, .any, .ptr 2 0 0 true, .func (.func fnD) [] [.ptr 3 0 0 true], .ptr 4 0 0 true, .any, .any, .any, .any, .any, .any, .any, .any, .any, .any, .any, .any, .any, .any, .vsl 5 0 (enR (soE n)).length, .int .i64 (enR (soE n)).length, .int .i64 p, .any, .any, .any, .any, .any, .any, .any, .any, .any, .any, .any, .any, .any, .any, .any, .any, .any, .any, .any, .any, .any, .any, .any, .any, .any, .any, .any, .any, .any, .any, .any, .any, .any, .any, .any, .any, .any, .any, .any, .any, .any, .any, .any, .any, .any, .any, .any, .any, .any, .any, .any, .any],
   [sgO o, sgO n, sgS 9 (sgU o n p).length, sgC 6, sgG 7, sgE (soE n), sgF o, sgC 8, sgF n, sgP (sgU o n p)]⟩
def sgM0 : Modes := ⟨[1, 0, 0, 0, 0, 1, 1, 1, 0, 0, 0, 0, 0, 0, 0, 0, 0, 0, 0, 0, 0, 0, 1, 1, 2, 0, 0, 0, 0, 0, 0, 0, 0, 0, 0, 0, 0, 0, 0, 0, 0, 0, 0, 0, 0, 0, 0, 0, 0, 0, 0, 0, 0, 0, 0, 0, 0, 0, 0, 0, 0, 0, 0, 0, 0, 0, 0, 0, 0, 0, 0, 0, 0, 0, 0, 0, 0], [], [], [], [(5, 59, 7)]⟩
def sgM : Modes := ⟨[1, 0, 0, 0, 0, 1, 1, 1, 0, 0, 0, 0, 0, 0, 0, 0, 0, 0, 0, 0, 0, 0, 1, 1, 1, 0, 0, 0, 0, 0, 0, 0, 0, 0, 0, 0, 0, 0, 0, 0, 0, 0, 0, 0, 0, 0, 0, 0, 0, 0, 0, 0, 0, 0, 0, 0, 0, 0, 0, 0, 0, 0, 0, 0, 0, 0, 0, 0, 0, 0, 0, 0, 0, 0, 0, 0, 0], [0, 1, 2, 3, 4, 5, 6, 7, 8, 9], [1, 1, 1, 1, 1, 1, 1, 1, 1, 1], [], []⟩
def sgMa : Modes := ⟨[1, 0, 0, 0, 0, 1, 1, 1, 0, 0, 0, 0, 0, 0, 0, 0, 0, 0, 0, 0, 0, 0, 1, 1, 1, 0, 0, 0, 0, 0, 0, 0, 0, 0, 0, 0, 0, 0, 0, 0, 0, 0, 0, 0, 0, 0, 0, 0, 0, 0, 0, 0, 0, 0, 0, 0, 0, 0, 0, 0, 0, 0, 0, 0, 0, 0, 0, 0, 0, 0, 0, 0, 0, 0, 0, 0, 0], [0, 1, 2, 3, 4, 5, 6, 7, 8, 13], [1, 1, 1, 1, 1, 1, 1, 1, 1, 1], [], []⟩
def sgM' : Modes := ⟨[1, 0, 0, 0, 0, 1, 0, 1, 0, 0, 0, 0, 0, 0, 0, 0, 0, 0, 0, 0, 0, 0, 0, 0, 0, 0, 0, 0, 0, 0, 0, 0, 0, 0, 0, 0, 0, 0, 0, 0, 0, 0, 0, 0, 0, 0, 0, 0, 0, 0, 0, 0, 0, 0, 0, 0, 0, 0, 0, 0, 0, 0, 0, 0, 0, 0, 0, 0, 0, 0, 0, 0, 0, 0, 0, 0, 0], [], [], [], []⟩
def sgX (o n : List En) (p : Nat) : List Hint := [.rows (spR (sgU o n (p + 1))), .nw, .md sgMa]

def sgS2 (o n : List En) (y : Nat) (k : Nat) : St :=
  ⟨[.func (.yield y) [] [], .ptr 9 0 0 true, .any, .int .i64 ((k : Int) - 1), .any, .any, .any, .any, .any, .any, .any, .any, .any, .any, .any, .any, .any, .any, .any],
   [sgO o, sgO n, sgS 4 (sgV o n k).length, sgG 5, sgP (sgV o n k), sgC 6, sgF n, sgE (onE o), sgE (soE o), sgB 8 (enR (soE o)).length]⟩
def sgS3 (o n : List En) (y : Nat) (k : Nat) : St :=
  ⟨[.func (.yield y) [] [], .ptr 9 0 0 true, .any, .int .i64 ((k : Int) - 1), .any, .any, .any, .any, .any, .any, .any, .any, .any, .any, .any, .any, .any, .any, .any],
   [sgO o, sgO n, sgS 10 (sgV o n k).length, sgG 5, none, sgC 6, sgF n, sgE (onE o), sgE (soE o), sgB 8 (enR (soE o)).length, sgP (sgV o n k)]⟩
def sgMr (r : Nat) : Modes := ⟨[1, 1, 0, 1, 0, 0, 0, 0, 0, 0, 0, 0, 0, 0, 0, 0, 0, 0, 0], [0, 1, 2, 3, 4, 5, 6, 7, 8, 9, r], [1, 1, 1, 1, 0, 1, 1, 1, 1, 1, 1], [], []⟩
def sgMx : Modes := ⟨[1, 1, 0, 0, 0, 0, 0, 0, 0, 0, 0, 0, 0, 0, 0, 0, 0, 0, 0], [0, 1, 2, 3, 4, 5, 6, 7, 8, 9, 10], [1, 1, 1, 1, 0, 1, 1, 1, 1, 1, 1], [], []⟩
def sgY (o n : List En) (k r : Nat) (b x : List Hint) : List Hint := [.fork [.dy, .cell (enE (at' (soE o) (k - 1))), .cell (.tuple [.int .i64 (fqI n (at' (soE o) (k - 1))), .bool (fqB n (at' (soE o) (k - 1)))]), .fork [.rows (spR (sgV o n (k - 1))), .nw, .md (sgMr r)] b] x]

def sgH (o n : List En) : List Hint :=
  [fqH o [sgO o, sgO n, sgN] 3 0, fqH n [sgO o, sgO n, sgN, sgF o, sgC 3, sgB 0 (o.map enE).length] 6 1, .nm (enR (onE n)), .nm (enR (soE n)),
   .linv _ 0 (sgS1 o n) (fun p => p ≤ (soE n).length) (fun p => (soE n).length + 1 - p) sgM0 sgM sgM' (fun _ => []) fun p =>
    [.fork [.dy, .cell (enE (at' (soE n) p)), .cell (.tuple [.int .i64 (fqI o (at' (soE n) p)), .bool (fqB o (at' (soE n) p))]), .fork (sgX o n p) [.dy, .cell (.int .i64 (at' o (fqI o (at' (soE n) p)).toNat).act), .fork (sgX o n p) [.nw]]] []],
   .nm (enR (onE o)), .nm (enR (soE o)),
   .inl fun y => [.nw, .linw _ _ (soE o).length (sgS2 o n y) (sgS3 o n y) (fun k => k ≤ (soE o).length) (fun k => k ≤ (soE o).length) (fun k => k) (fun k => k) fqM0 fqM0 fqM' (fun _ => []) (fun _ => [])
    (fun k => sgY o n k 13 [.nw] []) (fun k => sgY o n k 14 [.nw, .md (sgMr 10)] [.md sgMx])]]

theorem en_act (x : En) : partOf Try.prog 3 (enE x).cells 5 = some (.int .i64 x.act) := by kernel_rfl

noncomputable def gsteps11Cs : List (FuncId × Sx.Spec) := [(29, genSpec [pEn] gonce11F),
  (33, genSpec [pEn] esortF)]

theorem gsteps11_run (o n : List En) (es : List AV) : run gsteps11Cs Try.prog 24 [.vsl 0 0 (o.map enE).length, .vsl 1 0 (n.map enE).length] [some ⟨false, (pEn.getD (0, 0)).1, (pEn.getD (0, 0)).2, true, (o.map enE)⟩, some ⟨false, (pEn.getD (0, 0)).1, (pEn.getD (0, 0)).2, true, (n.map enE)⟩] (sgH o n) (yields (.vrow 59 7 es)) =
    (∀ (l : Nat), inRange IntKind.i64 ((↑(List.length (List.map enE o)) : Int) - (1 : Int)) ∧ (St.mk [AV.func (Fn.yield l) [] [], AV.ptr ((0 : Nat) + (1 : Nat) + (1 : Nat) + (1 : Nat) + (1 : Nat) + (1 : Nat)) 0 0 true, .any, AV.int IntKind.i64 ((↑(List.length (List.map enE o)) : Int) - (1 : Int)), .any, .any, .any, .any, .any, .any, .any, .any, .any, .any, .any, .any, .any, .any, .any] [some (Blk.mk false (42 : TypeId) 6 true (List.map enE o)), some (Blk.mk false (42 : TypeId) 6 true (List.map enE n)), some (Blk.mk true 46 1 true [AV.lit (Value.slice none 0 0)]), some (Blk.mk true 133 0 true []), some (Blk.mk true (nat_lit 133) 1 false [AV.mp ((0 : Nat) + (1 : Nat) + (1 : Nat) + (1 : Nat))]), some (Blk.mk true (nat_lit 31) 1 false [AV.vsl 0 0 (List.length (List.map enE o))])] = fqSt o [some (Blk.mk false (42 : TypeId) 6 true (List.map enE o)), some (Blk.mk false (42 : TypeId) 6 true (List.map enE n)), some (Blk.mk true (46 : TypeId) 1 true [AV.lit (Value.slice none 0 0)])] 3 0 l (List.length o) ∧ Nat.le (List.length o) (List.length o)) ∧ ∀ (p : Nat), Nat.le p (List.length o) → (Decidable.decide ((↑p : Int) - (1 : Int) ≥ (0 : Int)) = true → ((0 : Int) ≤ (↑p : Int) - (1 : Int) ∧ (↑p : Int) - (1 : Int) < (↑(List.length (List.map enE o)) : Int)) ∧ Blk.read Proofs.Try.prog (Blk.mk false (42 : TypeId) 6 true (List.map enE o)) 42 ((0 : Nat) + Int.toNat ((↑p : Int) - (1 : Int))) 0 = some (AV.agg [AV.w64 (at' o (p - (1 : Nat))).1, AV.w64 (at' o (p - (1 : Nat))).2, AV.w64 (at' o (p - (1 : Nat))).3, AV.w64 (at' o (p - (1 : Nat))).4, AV.int IntKind.i64 (at' o (p - (1 : Nat))).5, AV.int IntKind.i64 (at' o (p - (1 : Nat))).6]) ∧ l = l ∧ mupd 133 (List.map fiA (fwL o p)) (AV.agg [AV.w64 (at' o (p - (1 : Nat))).1, AV.w64 (at' o (p - (1 : Nat))).2, AV.w64 (at' o (p - (1 : Nat))).3, AV.w64 (at' o (p - (1 : Nat))).4, AV.int IntKind.i64 (at' o (p - (1 : Nat))).5, AV.int IntKind.i64 0]) (AV.int IntKind.i64 ((↑p : Int) - (1 : Int))) (fiR (fwL o (p - (1 : Nat)))) ∧ inRange IntKind.i64 ((↑p : Int) - (1 : Int) - (1 : Int)) ∧ ∃ (p' : Nat), St.mk [AV.func (Fn.yield l) [] [], AV.ptr ((0 : Nat) + (1 : Nat) + (1 : Nat) + (1 : Nat) + (1 : Nat) + (1 : Nat)) 0 0 true, .any, AV.int IntKind.i64 ((↑p : Int) - (1 : Int) - (1 : Int)), .any, .any, .any, .any, .any, .any, .any, .any, .any, .any, .any, .any, .any, .any, .any] [some (Blk.mk false (42 : TypeId) 6 true (List.map enE o)), some (Blk.mk false (42 : TypeId) 6 true (List.map enE n)), some (Blk.mk true (46 : TypeId) 1 true [AV.lit (Value.slice none 0 0)]), some (Blk.mk true (nat_lit 133) 0 true (fiR (fwL o (p - (1 : Nat))))), some (Blk.mk true (nat_lit 133) 1 false [AV.mp ((0 : Nat) + (1 : Nat) + (1 : Nat) + (1 : Nat))]), some (Blk.mk true (nat_lit 31) 1 false [AV.vsl 0 0 (List.length (List.map enE o))])] = fqSt o [some (Blk.mk false (42 : TypeId) 6 true (List.map enE o)), some (Blk.mk false (42 : TypeId) 6 true (List.map enE n)), some (Blk.mk true (46 : TypeId) 1 true [AV.lit (Value.slice none 0 0)])] 3 0 l p' ∧ Nat.le p' (List.length o) ∧ p' < p) ∧ (Decidable.decide ((↑p : Int) - (1 : Int) ≥ (0 : Int)) = false → ∀ (l : Nat), inRange IntKind.i64 ((↑(List.length (List.map enE n)) : Int) - (1 : Int)) ∧ (St.mk [AV.func (Fn.yield l) [] [], AV.ptr ((0 : Nat) + (1 : Nat) + (1 : Nat) + (1 : Nat) + (1 : Nat) + (1 : Nat) + (1 : Nat) + (1 : Nat) + (1 : Nat)) 0 0 true, .any, AV.int IntKind.i64 ((↑(List.length (List.map enE n)) : Int) - (1 : Int)), .any, .any, .any, .any, .any, .any, .any, .any, .any, .any, .any, .any, .any, .any, .any] [some (Blk.mk false (42 : TypeId) 6 true (List.map enE o)), some (Blk.mk false (42 : TypeId) 6 true (List.map enE n)), some (Blk.mk true (46 : TypeId) 1 true [AV.lit (Value.slice none 0 0)]), some (Blk.mk true (133 : TypeId) 0 true (fiR (fwL o p))), some (Blk.mk true (nat_lit 133) 1 false [AV.mp ((0 : Nat) + (1 : Nat) + (1 : Nat) + (1 : Nat))]), some (Blk.mk true (nat_lit 31) 1 false [AV.vsl 0 0 (List.length (List.map enE o))]), some (Blk.mk true 133 0 true []), some (Blk.mk true (nat_lit 133) 1 false [AV.mp ((0 : Nat) + (1 : Nat) + (1 : Nat) + (1 : Nat) + (1 : Nat) + (1 : Nat) + (1 : Nat))]), some (Blk.mk true (nat_lit 31) 1 false [AV.vsl ((0 : Nat) + (1 : Nat)) 0 (List.length (List.map enE n))])] = fqSt n [some (Blk.mk false (42 : TypeId) 6 true (List.map enE o)), some (Blk.mk false (42 : TypeId) 6 true (List.map enE n)), some (Blk.mk true (46 : TypeId) 1 true [AV.lit (Value.slice none 0 0)]), some (Blk.mk true (133 : TypeId) 0 true (fiR (fwL o 0))), some (Blk.mk true (133 : TypeId) 1 false [AV.mp 3]), some (Blk.mk true (31 : TypeId) 1 false [AV.vsl 0 0 (List.length (List.map enE o))])] 6 1 l (List.length n) ∧ Nat.le (List.length n) (List.length n)) ∧ ∀ (p : Nat), Nat.le p (List.length n) → (Decidable.decide ((↑p : Int) - (1 : Int) ≥ (0 : Int)) = true → ((0 : Int) ≤ (↑p : Int) - (1 : Int) ∧ (↑p : Int) - (1 : Int) < (↑(List.length (List.map enE n)) : Int)) ∧ Blk.read Proofs.Try.prog (Blk.mk false (42 : TypeId) 6 true (List.map enE n)) 42 ((0 : Nat) + Int.toNat ((↑p : Int) - (1 : Int))) 0 = some (AV.agg [AV.w64 (at' n (p - (1 : Nat))).1, AV.w64 (at' n (p - (1 : Nat))).2, AV.w64 (at' n (p - (1 : Nat))).3, AV.w64 (at' n (p - (1 : Nat))).4, AV.int IntKind.i64 (at' n (p - (1 : Nat))).5, AV.int IntKind.i64 (at' n (p - (1 : Nat))).6]) ∧ l = l ∧ mupd 133 (List.map fiA (fwL n p)) (AV.agg [AV.w64 (at' n (p - (1 : Nat))).1, AV.w64 (at' n (p - (1 : Nat))).2, AV.w64 (at' n (p - (1 : Nat))).3, AV.w64 (at' n (p - (1 : Nat))).4, AV.int IntKind.i64 (at' n (p - (1 : Nat))).5, AV.int IntKind.i64 0]) (AV.int IntKind.i64 ((↑p : Int) - (1 : Int))) (fiR (fwL n (p - (1 : Nat)))) ∧ inRange IntKind.i64 ((↑p : Int) - (1 : Int) - (1 : Int)) ∧ ∃ (p' : Nat), St.mk [AV.func (Fn.yield l) [] [], AV.ptr ((0 : Nat) + (1 : Nat) + (1 : Nat) + (1 : Nat) + (1 : Nat) + (1 : Nat) + (1 : Nat) + (1 : Nat) + (1 : Nat)) 0 0 true, .any, AV.int IntKind.i64 ((↑p : Int) - (1 : Int) - (1 : Int)), .any, .any, .any, .any, .any, .any, .any, .any, .any, .any, .any, .any, .any, .any, .any] [some (Blk.mk false (42 : TypeId) 6 true (List.map enE o)), some (Blk.mk false (42 : TypeId) 6 true (List.map enE n)), some (Blk.mk true (46 : TypeId) 1 true [AV.lit (Value.slice none 0 0)]), some (Blk.mk true (133 : TypeId) 0 true (fiR (fwL o 0))), some (Blk.mk true (nat_lit 133) 1 false [AV.mp ((0 : Nat) + (1 : Nat) + (1 : Nat) + (1 : Nat))]), some (Blk.mk true (nat_lit 31) 1 false [AV.vsl 0 0 (List.length (List.map enE o))]), some (Blk.mk true (nat_lit 133) 0 true (fiR (fwL n (p - (1 : Nat))))), some (Blk.mk true (nat_lit 133) 1 false [AV.mp ((0 : Nat) + (1 : Nat) + (1 : Nat) + (1 : Nat) + (1 : Nat) + (1 : Nat) + (1 : Nat))]), some (Blk.mk true (nat_lit 31) 1 false [AV.vsl ((0 : Nat) + (1 : Nat)) 0 (List.length (List.map enE n))])] = fqSt n [some (Blk.mk false (42 : TypeId) 6 true (List.map enE o)), some (Blk.mk false (42 : TypeId) 6 true (List.map enE n)), some (Blk.mk true (46 : TypeId) 1 true [AV.lit (Value.slice none 0 0)]), some (Blk.mk true (133 : TypeId) 0 true (fiR (fwL o 0))), some (Blk.mk true (133 : TypeId) 1 false [AV.mp 3]), some (Blk.mk true (31 : TypeId) 1 false [AV.vsl 0 0 (List.length (List.map enE o))])] 6 1 l p' ∧ Nat.le p' (List.length n) ∧ p' < p) ∧ (Decidable.decide ((↑p : Int) - (1 : Int) ≥ (0 : Int)) = false → (0 : Nat) + List.length (List.map enE n) ≤ List.length (List.map enE n) ∧ List.take (List.length (List.map enE n)) (List.drop 0 (List.map enE n)) = List.map enE (deE (List.take (List.length (List.map enE n)) (List.drop 0 (List.map enE n)))) ∧ List.length (deE (List.take (List.length (List.map enE n)) (List.drop 0 (List.map enE n)))) ≤ (1000000 : Nat) ∧ (List.map enE (onE (deE (List.take (List.length (List.map enE n)) (List.drop 0 (List.map enE n))))) = enR (onE n) ∧ List.length (List.map enE (onE (deE (List.take (List.length (List.map enE n)) (List.drop 0 (List.map enE n)))))) = List.length (enR (onE n))) ∧ (0 : Nat) + List.length (enR (onE n)) ≤ List.length (enR (onE n)) ∧ List.take (List.length (enR (onE n))) (List.drop 0 (enR (onE n))) = List.map enE (deE (List.take (List.length (enR (onE n))) (List.drop 0 (enR (onE n))))) ∧ List.length (deE (List.take (List.length (enR (onE n))) (List.drop 0 (enR (onE n))))) ≤ (1000000 : Nat) ∧ (List.map enE (srE (deE (List.take (List.length (enR (onE n))) (List.drop 0 (enR (onE n)))))) = enR (soE n) ∧ List.length (List.map enE (srE (deE (List.take (List.length (enR (onE n))) (List.drop 0 (enR (onE n))))))) = List.length (enR (soE n))) ∧ (St.mk [AV.vsl 0 0 (List.length (List.map enE o)), .any, .any, .any, .any, AV.ptr ((0 : Nat) + (1 : Nat) + (1 : Nat)) 0 0 true, AV.func (Fn.func 92) [] [AV.ptr ((0 : Nat) + (1 : Nat) + (1 : Nat) + (1 : Nat)) 0 0 true], AV.ptr ((0 : Nat) + (1 : Nat) + (1 : Nat) + (1 : Nat) + (1 : Nat)) 0 0 true, .any, .any, .any, .any, .any, .any, .any, .any, .any, .any, .any, .any, .any, .any, AV.vsl ((0 : Nat) + (1 : Nat) + (1 : Nat) + (1 : Nat) + (1 : Nat) + (1 : Nat)) 0 (List.length (enR (soE n))), AV.int IntKind.i64 (↑(List.length (enR (soE n))) : Int), AV.int IntKind.i64 0, .any, .any, .any, .any, .any, .any, .any, .any, .any, .any, .any, .any, .any, .any, .any, .any, .any, .any, .any, .any, .any, .any, .any, .any, .any, .any, .any, .any, .any, .any, .any, .any, .any, .any, .any, .any, .any, .any, .any, .any, .any, .any, .any, .any, .any, .any, .any, .any, .any, .any, .any, .any] ([some (Blk.mk false (42 : TypeId) 6 true (List.map enE o)), some (Blk.mk false (42 : TypeId) 6 true (List.map enE n)), some (Blk.mk true (nat_lit 46) 1 false [AV.vsl (List.length [some (Blk.mk false (42 : TypeId) 6 true (List.map enE o)), some (Blk.mk false (42 : TypeId) 6 true (List.map enE n)), some (Blk.mk true (46 : TypeId) 1 true [AV.lit (Value.slice none 0 0)]), some (Blk.mk true (nat_lit 133) 1 false [AV.mp ((0 : Nat) + (1 : Nat) + (1 : Nat) + (1 : Nat) + (1 : Nat) + (1 : Nat) + (1 : Nat))]), some (Blk.mk true (nat_lit 105) 1 false [AV.func (Fn.func 92) [] [AV.ptr ((0 : Nat) + (1 : Nat) + (1 : Nat) + (1 : Nat) + (1 : Nat) + (1 : Nat) + (1 : Nat) + (1 : Nat)) 0 0 true]]), some (Blk.mk true (42 : TypeId) 6 true (enR (soE n))), some (Blk.mk true (133 : TypeId) 0 true (fiR (fwL o 0))), some (Blk.mk true (nat_lit 133) 1 false [AV.mp ((0 : Nat) + (1 : Nat) + (1 : Nat) + (1 : Nat) + (1 : Nat) + (1 : Nat) + (1 : Nat) + (1 : Nat) + (1 : Nat))]), some (Blk.mk true (133 : TypeId) 0 true (fiR (fwL n p)))]) 0 0]), some (Blk.mk true (nat_lit 133) 1 false [AV.mp ((0 : Nat) + (1 : Nat) + (1 : Nat) + (1 : Nat) + (1 : Nat) + (1 : Nat) + (1 : Nat))]), some (Blk.mk true (nat_lit 105) 1 false [AV.func (Fn.func 92) [] [AV.ptr ((0 : Nat) + (1 : Nat) + (1 : Nat) + (1 : Nat) + (1 : Nat) + (1 : Nat) + (1 : Nat) + (1 : Nat)) 0 0 true]]), some (Blk.mk true (42 : TypeId) 6 true (enR (soE n))), some (Blk.mk true (133 : TypeId) 0 true (fiR (fwL o 0))), some (Blk.mk true (nat_lit 133) 1 false [AV.mp ((0 : Nat) + (1 : Nat) + (1 : Nat) + (1 : Nat) + (1 : Nat) + (1 : Nat) + (1 : Nat) + (1 : Nat) + (1 : Nat))]), some (Blk.mk true (133 : TypeId) 0 true (fiR (fwL n p)))] ++ [some (Blk.mk true (59 : TypeId) 7 true [])]) = sgS1 o n 0 ∧ Nat.le 0 (List.length (soE n))) ∧ ∀ (p : Nat), Nat.le p (List.length (soE n)) → (Decidable.decide ((↑p : Int) < (↑(List.length (enR (soE n))) : Int)) = true → ((0 : Int) ≤ (↑p : Int) ∧ (↑p : Int) < (↑(List.length (enR (soE n))) : Int)) ∧ Blk.read Proofs.Try.prog (Blk.mk true (42 : TypeId) 6 true (enR (soE n))) 42 ((0 : Nat) + Int.toNat (↑p : Int)) 0 = some (AV.agg [AV.w64 (at' (soE n) p).1, AV.w64 (at' (soE n) p).2, AV.w64 (at' (soE n) p).3, AV.w64 (at' (soE n) p).4, AV.int IntKind.i64 (at' (soE n) p).5, AV.int IntKind.i64 (at' (soE n) p).6]) ∧ mlook 133 (List.map fiA (fwL o 0)) (AV.agg [AV.w64 (at' (soE n) p).1, AV.w64 (at' (soE n) p).2, AV.w64 (at' (soE n) p).3, AV.w64 (at' (soE n) p).4, AV.int IntKind.i64 (at' (soE n) p).5, AV.int IntKind.i64 0]) true (AV.tuple [AV.int IntKind.i64 (fqI o (at' (soE n) p)), AV.bool (fqB o (at' (soE n) p))]) ∧ ((!fqB o (at' (soE n) p)) = true → ((List.length (sgU o n p) + (1 : Nat)) * (56 : Nat) ≤ (140737488355328 : Nat) ∧ List.length (sgU o n p) + (1 : Nat) ≤ (9223372036854775807 : Nat) ∧ (0 : Nat) + (1 : Nat) ≤ List.length [AV.agg [AV.int IntKind.i64 0, AV.w64 (at' (soE n) p).1, AV.w64 (at' (soE n) p).2, AV.w64 (at' (soE n) p).3, AV.w64 (at' (soE n) p).4, AV.int IntKind.i64 (at' (soE n) p).5, AV.int IntKind.i64 (at' (soE n) p).6]] ∧ List.length (sgU o n p) ≤ List.length (List.map spE (sgU o n p))) ∧ List.take (List.length (sgU o n p)) (List.map spE (sgU o n p)) ++ [AV.agg [AV.int IntKind.i64 0, AV.w64 (at' (soE n) p).1, AV.w64 (at' (soE n) p).2, AV.w64 (at' (soE n) p).3, AV.w64 (at' (soE n) p).4, AV.int IntKind.i64 (at' (soE n) p).5, AV.int IntKind.i64 (at' (soE n) p).6]] = spR (sgU o n (p + (1 : Nat))) ∧ inRange IntKind.i64 ((↑p : Int) + (1 : Int)) ∧ ∃ (p' : Nat), St.mk [AV.vsl 0 0 (List.length (List.map enE o)), .any, .any, .any, .any, AV.ptr ((0 : Nat) + (1 : Nat) + (1 : Nat)) 0 0 true, AV.func (Fn.func (nat_lit 92)) [] [AV.ptr ((0 : Nat) + (1 : Nat) + (1 : Nat) + (1 : Nat)) 0 0 true], AV.ptr ((0 : Nat) + (1 : Nat) + (1 : Nat) + (1 : Nat) + (1 : Nat)) 0 0 true, .any, .any, .any, .any, .any, .any, .any, .any, .any, .any, .any, .any, .any, .any, AV.vsl ((0 : Nat) + (1 : Nat) + (1 : Nat) + (1 : Nat) + (1 : Nat) + (1 : Nat)) 0 (List.length (enR (soE n))), AV.int IntKind.i64 (↑(List.length (enR (soE n))) : Int), AV.int IntKind.i64 ((↑p : Int) + (1 : Int)), .any, .any, .any, .any, .any, .any, .any, .any, .any, .any, .any, .any, .any, .any, .any, .any, .any, .any, .any, .any, .any, .any, .any, .any, .any, .any, .any, .any, .any, .any, .any, .any, .any, .any, .any, .any, .any, .any, .any, .any, .any, .any, .any, .any, .any, .any, .any, .any, .any, .any, .any, .any] [some (Blk.mk false (42 : TypeId) 6 true (List.map enE o)), some (Blk.mk false (42 : TypeId) 6 true (List.map enE n)), some (Blk.mk true (nat_lit 46) 1 false [AV.vsl ((0 : Nat) + (1 : Nat) + (1 : Nat) + (1 : Nat) + (1 : Nat) + (1 : Nat) + (1 : Nat) + (1 : Nat) + (1 : Nat) + (1 : Nat)) 0 (List.length (sgU o n p) + (1 : Nat))]), some (Blk.mk true (nat_lit 133) 1 false [AV.mp ((0 : Nat) + (1 : Nat) + (1 : Nat) + (1 : Nat) + (1 : Nat) + (1 : Nat) + (1 : Nat))]), some (Blk.mk true (nat_lit 105) 1 false [AV.func (Fn.func (nat_lit 92)) [] [AV.ptr ((0 : Nat) + (1 : Nat) + (1 : Nat) + (1 : Nat) + (1 : Nat) + (1 : Nat) + (1 : Nat) + (1 : Nat)) 0 0 true]]), some (Blk.mk true (42 : TypeId) 6 true (enR (soE n))), some (Blk.mk true (133 : TypeId) 0 true (fiR (fwL o 0))), some (Blk.mk true (nat_lit 133) 1 false [AV.mp ((0 : Nat) + (1 : Nat) + (1 : Nat) + (1 : Nat) + (1 : Nat) + (1 : Nat) + (1 : Nat) + (1 : Nat) + (1 : Nat))]), some (Blk.mk true (133 : TypeId) 0 true (fiR (fwL n 0))), some (Blk.mk true 59 7 true (spR (sgU o n (p + (1 : Nat)))))] = sgS1 o n p' ∧ Nat.le p' (List.length (soE n)) ∧ List.length (soE n) + (1 : Nat) - p' < List.length (soE n) + (1 : Nat) - p) ∧ ((!fqB o (at' (soE n) p)) = false → ((0 : Int) ≤ fqI o (at' (soE n) p) ∧ fqI o (at' (soE n) p) < (↑(List.length (List.map enE o)) : Int)) ∧ Blk.read Proofs.Try.prog (Blk.mk false (42 : TypeId) 6 true (List.map enE o)) 3 ((0 : Nat) + Int.toNat (fqI o (at' (soE n) p))) ((0 : Nat) + (5 : Nat)) = some (AV.int IntKind.i64 (at' o (Int.toNat (fqI o (at' (soE n) p)))).6) ∧ (((at' o (Int.toNat (fqI o (at' (soE n) p)))).6 != (at' (soE n) p).6) = true → ((List.length (sgU o n p) + (1 : Nat)) * (56 : Nat) ≤ (140737488355328 : Nat) ∧ List.length (sgU o n p) + (1 : Nat) ≤ (9223372036854775807 : Nat) ∧ (0 : Nat) + (1 : Nat) ≤ List.length [AV.agg [AV.int IntKind.i64 1, AV.w64 (at' (soE n) p).1, AV.w64 (at' (soE n) p).2, AV.w64 (at' (soE n) p).3, AV.w64 (at' (soE n) p).4, AV.int IntKind.i64 (at' (soE n) p).5, AV.int IntKind.i64 (at' (soE n) p).6]] ∧ List.length (sgU o n p) ≤ List.length (List.map spE (sgU o n p))) ∧ List.take (List.length (sgU o n p)) (List.map spE (sgU o n p)) ++ [AV.agg [AV.int IntKind.i64 1, AV.w64 (at' (soE n) p).1, AV.w64 (at' (soE n) p).2, AV.w64 (at' (soE n) p).3, AV.w64 (at' (soE n) p).4, AV.int IntKind.i64 (at' (soE n) p).5, AV.int IntKind.i64 (at' (soE n) p).6]] = spR (sgU o n (p + (1 : Nat))) ∧ inRange IntKind.i64 ((↑p : Int) + (1 : Int)) ∧ ∃ (p' : Nat), St.mk [AV.vsl 0 0 (List.length (List.map enE o)), .any, .any, .any, .any, AV.ptr ((0 : Nat) + (1 : Nat) + (1 : Nat)) 0 0 true, AV.func (Fn.func (nat_lit 92)) [] [AV.ptr ((0 : Nat) + (1 : Nat) + (1 : Nat) + (1 : Nat)) 0 0 true], AV.ptr ((0 : Nat) + (1 : Nat) + (1 : Nat) + (1 : Nat) + (1 : Nat)) 0 0 true, .any, .any, .any, .any, .any, .any, .any, .any, .any, .any, .any, .any, .any, .any, AV.vsl ((0 : Nat) + (1 : Nat) + (1 : Nat) + (1 : Nat) + (1 : Nat) + (1 : Nat)) 0 (List.length (enR (soE n))), AV.int IntKind.i64 (↑(List.length (enR (soE n))) : Int), AV.int IntKind.i64 ((↑p : Int) + (1 : Int)), .any, .any, .any, .any, .any, .any, .any, .any, .any, .any, .any, .any, .any, .any, .any, .any, .any, .any, .any, .any, .any, .any, .any, .any, .any, .any, .any, .any, .any, .any, .any, .any, .any, .any, .any, .any, .any, .any, .any, .any, .any, .any, .any, .any, .any, .any, .any, .any, .any, .any, .any, .any] [some (Blk.mk false (42 : TypeId) 6 true (List.map enE o)), some (Blk.mk false (42 : TypeId) 6 true (List.map enE n)), some (Blk.mk true (nat_lit 46) 1 false [AV.vsl ((0 : Nat) + (1 : Nat) + (1 : Nat) + (1 : Nat) + (1 : Nat) + (1 : Nat) + (1 : Nat) + (1 : Nat) + (1 : Nat) + (1 : Nat)) 0 (List.length (sgU o n p) + (1 : Nat))]), some (Blk.mk true (nat_lit 133) 1 false [AV.mp ((0 : Nat) + (1 : Nat) + (1 : Nat) + (1 : Nat) + (1 : Nat) + (1 : Nat) + (1 : Nat))]), some (Blk.mk true (nat_lit 105) 1 false [AV.func (Fn.func (nat_lit 92)) [] [AV.ptr ((0 : Nat) + (1 : Nat) + (1 : Nat) + (1 : Nat) + (1 : Nat) + (1 : Nat) + (1 : Nat) + (1 : Nat)) 0 0 true]]), some (Blk.mk true (42 : TypeId) 6 true (enR (soE n))), some (Blk.mk true (133 : TypeId) 0 true (fiR (fwL o 0))), some (Blk.mk true (nat_lit 133) 1 false [AV.mp ((0 : Nat) + (1 : Nat) + (1 : Nat) + (1 : Nat) + (1 : Nat) + (1 : Nat) + (1 : Nat) + (1 : Nat) + (1 : Nat))]), some (Blk.mk true (133 : TypeId) 0 true (fiR (fwL n 0))), some (Blk.mk true 59 7 true (spR (sgU o n (p + (1 : Nat)))))] = sgS1 o n p' ∧ Nat.le p' (List.length (soE n)) ∧ List.length (soE n) + (1 : Nat) - p' < List.length (soE n) + (1 : Nat) - p) ∧ (((at' o (Int.toNat (fqI o (at' (soE n) p)))).6 != (at' (soE n) p).6) = false → inRange IntKind.i64 ((↑p : Int) + (1 : Int)) ∧ ∃ (p' : Nat), St.mk [AV.vsl 0 0 (List.length (List.map enE o)), .any, .any, .any, .any, AV.ptr ((0 : Nat) + (1 : Nat) + (1 : Nat)) 0 0 true, AV.func (Fn.func (nat_lit 92)) [] [AV.ptr ((0 : Nat) + (1 : Nat) + (1 : Nat) + (1 : Nat)) 0 0 true], AV.ptr ((0 : Nat) + (1 : Nat) + (1 : Nat) + (1 : Nat) + (1 : Nat)) 0 0 true, .any, .any, .any, .any, .any, .any, .any, .any, .any, .any, .any, .any, .any, .any, AV.vsl ((0 : Nat) + (1 : Nat) + (1 : Nat) + (1 : Nat) + (1 : Nat) + (1 : Nat)) 0 (List.length (enR (soE n))), AV.int IntKind.i64 (↑(List.length (enR (soE n))) : Int), AV.int IntKind.i64 ((↑p : Int) + (1 : Int)), .any, .any, .any, .any, .any, .any, .any, .any, .any, .any, .any, .any, .any, .any, .any, .any, .any, .any, .any, .any, .any, .any, .any, .any, .any, .any, .any, .any, .any, .any, .any, .any, .any, .any, .any, .any, .any, .any, .any, .any, .any, .any, .any, .any, .any, .any, .any, .any, .any, .any, .any, .any] [some (Blk.mk false (42 : TypeId) 6 true (List.map enE o)), some (Blk.mk false (42 : TypeId) 6 true (List.map enE n)), some (Blk.mk true (nat_lit 46) 1 false [AV.vsl ((0 : Nat) + (1 : Nat) + (1 : Nat) + (1 : Nat) + (1 : Nat) + (1 : Nat) + (1 : Nat) + (1 : Nat) + (1 : Nat) + (1 : Nat)) 0 (List.length (sgU o n p))]), some (Blk.mk true (nat_lit 133) 1 false [AV.mp ((0 : Nat) + (1 : Nat) + (1 : Nat) + (1 : Nat) + (1 : Nat) + (1 : Nat) + (1 : Nat))]), some (Blk.mk true (nat_lit 105) 1 false [AV.func (Fn.func (nat_lit 92)) [] [AV.ptr ((0 : Nat) + (1 : Nat) + (1 : Nat) + (1 : Nat) + (1 : Nat) + (1 : Nat) + (1 : Nat) + (1 : Nat)) 0 0 true]]), some (Blk.mk true (42 : TypeId) 6 true (enR (soE n))), some (Blk.mk true (133 : TypeId) 0 true (fiR (fwL o 0))), some (Blk.mk true (nat_lit 133) 1 false [AV.mp ((0 : Nat) + (1 : Nat) + (1 : Nat) + (1 : Nat) + (1 : Nat) + (1 : Nat) + (1 : Nat) + (1 : Nat) + (1 : Nat))]), some (Blk.mk true (133 : TypeId) 0 true (fiR (fwL n 0))), some (Blk.mk true (59 : TypeId) 7 true (spR (sgU o n p)))] = sgS1 o n p' ∧ Nat.le p' (List.length (soE n)) ∧ List.length (soE n) + (1 : Nat) - p' < List.length (soE n) + (1 : Nat) - p))) ∧ (Decidable.decide ((↑p : Int) < (↑(List.length (enR (soE n))) : Int)) = false → (0 : Nat) + List.length (List.map enE o) ≤ List.length (List.map enE o) ∧ List.take (List.length (List.map enE o)) (List.drop 0 (List.map enE o)) = List.map enE (deE (List.take (List.length (List.map enE o)) (List.drop 0 (List.map enE o)))) ∧ List.length (deE (List.take (List.length (List.map enE o)) (List.drop 0 (List.map enE o)))) ≤ (1000000 : Nat) ∧ (List.map enE (onE (deE (List.take (List.length (List.map enE o)) (List.drop 0 (List.map enE o))))) = enR (onE o) ∧ List.length (List.map enE (onE (deE (List.take (List.length (List.map enE o)) (List.drop 0 (List.map enE o)))))) = List.length (enR (onE o))) ∧ (0 : Nat) + List.length (enR (onE o)) ≤ List.length (enR (onE o)) ∧ List.take (List.length (enR (onE o))) (List.drop 0 (enR (onE o))) = List.map enE (deE (List.take (List.length (enR (onE o))) (List.drop 0 (enR (onE o))))) ∧ List.length (deE (List.take (List.length (enR (onE o))) (List.drop 0 (enR (onE o))))) ≤ (1000000 : Nat) ∧ (List.map enE (srE (deE (List.take (List.length (enR (onE o))) (List.drop 0 (enR (onE o)))))) = enR (soE o) ∧ List.length (List.map enE (srE (deE (List.take (List.length (enR (onE o))) (List.drop 0 (enR (onE o))))))) = List.length (enR (soE o))) ∧ ∀ (l : Nat), inRange IntKind.i64 ((↑(List.length (enR (soE o))) : Int) - (1 : Int)) ∧ (St.mk [AV.func (Fn.yield l) [] [], AV.ptr ((0 : Nat) + (1 : Nat) + (1 : Nat) + (1 : Nat) + (1 : Nat) + (1 : Nat) + (1 : Nat) + (1 : Nat) + (1 : Nat) + (1 : Nat)) 0 0 true, .any, AV.int IntKind.i64 ((↑(List.length (enR (soE o))) : Int) - (1 : Int)), .any, .any, .any, .any, .any, .any, .any, .any, .any, .any, .any, .any, .any, .any, .any] [some (Blk.mk false (42 : TypeId) 6 true (List.map enE o)), some (Blk.mk false (42 : TypeId) 6 true (List.map enE n)), some (Blk.mk true (nat_lit 46) 1 false [AV.vsl ((0 : Nat) + (1 : Nat) + (1 : Nat) + (1 : Nat) + (1 : Nat)) 0 (List.length (sgU o n p))]), some (Blk.mk true (nat_lit 105) 1 false [AV.func (Fn.func (nat_lit 92)) [] [AV.ptr ((0 : Nat) + (1 : Nat) + (1 : Nat) + (1 : Nat) + (1 : Nat) + (1 : Nat)) 0 0 true]]), some (Blk.mk true (59 : TypeId) 7 true (spR (sgU o n p))), some (Blk.mk true (nat_lit 133) 1 false [AV.mp ((0 : Nat) + (1 : Nat) + (1 : Nat) + (1 : Nat) + (1 : Nat) + (1 : Nat) + (1 : Nat))]), some (Blk.mk true (133 : TypeId) 0 true (fiR (fwL n 0))), some (Blk.mk true (42 : TypeId) 6 true (enR (onE o))), some (Blk.mk true (42 : TypeId) 6 true (enR (soE o))), some (Blk.mk true (nat_lit 31) 1 false [AV.vsl ((0 : Nat) + (1 : Nat) + (1 : Nat) + (1 : Nat) + (1 : Nat) + (1 : Nat) + (1 : Nat) + (1 : Nat) + (1 : Nat)) 0 (List.length (enR (soE o)))])] = sgS2 o n l (List.length (soE o)) ∧ Nat.le (List.length (soE o)) (List.length (soE o))) ∧ (∀ (p : Nat), Nat.le p (List.length (soE o)) → (Decidable.decide ((↑p : Int) - (1 : Int) ≥ (0 : Int)) = true → ((0 : Int) ≤ (↑p : Int) - (1 : Int) ∧ (↑p : Int) - (1 : Int) < (↑(List.length (enR (soE o))) : Int)) ∧ Blk.read Proofs.Try.prog (Blk.mk true (42 : TypeId) 6 true (enR (soE o))) 42 ((0 : Nat) + Int.toNat ((↑p : Int) - (1 : Int))) 0 = some (AV.agg [AV.w64 (at' (soE o) (p - (1 : Nat))).1, AV.w64 (at' (soE o) (p - (1 : Nat))).2, AV.w64 (at' (soE o) (p - (1 : Nat))).3, AV.w64 (at' (soE o) (p - (1 : Nat))).4, AV.int IntKind.i64 (at' (soE o) (p - (1 : Nat))).5, AV.int IntKind.i64 (at' (soE o) (p - (1 : Nat))).6]) ∧ l = l ∧ mlook 133 (List.map fiA (fwL n 0)) (AV.agg [AV.w64 (at' (soE o) (p - (1 : Nat))).1, AV.w64 (at' (soE o) (p - (1 : Nat))).2, AV.w64 (at' (soE o) (p - (1 : Nat))).3, AV.w64 (at' (soE o) (p - (1 : Nat))).4, AV.int IntKind.i64 (at' (soE o) (p - (1 : Nat))).5, AV.int IntKind.i64 0]) true (AV.tuple [AV.int IntKind.i64 (fqI n (at' (soE o) (p - (1 : Nat)))), AV.bool (fqB n (at' (soE o) (p - (1 : Nat))))]) ∧ ((!fqB n (at' (soE o) (p - (1 : Nat)))) = true → ((List.length (sgV o n p) + (1 : Nat)) * (56 : Nat) ≤ (140737488355328 : Nat) ∧ List.length (sgV o n p) + (1 : Nat) ≤ (9223372036854775807 : Nat) ∧ (0 : Nat) + (1 : Nat) ≤ List.length [AV.agg [AV.int IntKind.i64 2, AV.w64 (at' (soE o) (p - (1 : Nat))).1, AV.w64 (at' (soE o) (p - (1 : Nat))).2, AV.w64 (at' (soE o) (p - (1 : Nat))).3, AV.w64 (at' (soE o) (p - (1 : Nat))).4, AV.int IntKind.i64 (at' (soE o) (p - (1 : Nat))).5, AV.int IntKind.i64 (at' (soE o) (p - (1 : Nat))).6]] ∧ List.length (sgV o n p) ≤ List.length (List.map spE (sgV o n p))) ∧ List.take (List.length (sgV o n p)) (List.map spE (sgV o n p)) ++ [AV.agg [AV.int IntKind.i64 2, AV.w64 (at' (soE o) (p - (1 : Nat))).1, AV.w64 (at' (soE o) (p - (1 : Nat))).2, AV.w64 (at' (soE o) (p - (1 : Nat))).3, AV.w64 (at' (soE o) (p - (1 : Nat))).4, AV.int IntKind.i64 (at' (soE o) (p - (1 : Nat))).5, AV.int IntKind.i64 (at' (soE o) (p - (1 : Nat))).6]] = spR (sgV o n (p - (1 : Nat))) ∧ inRange IntKind.i64 ((↑p : Int) - (1 : Int) - (1 : Int)) ∧ ((∃ (p' : Nat), St.mk [AV.func (Fn.yield l) [] [], AV.ptr ((0 : Nat) + (1 : Nat) + (1 : Nat) + (1 : Nat) + (1 : Nat) + (1 : Nat) + (1 : Nat) + (1 : Nat) + (1 : Nat) + (1 : Nat)) 0 0 true, .any, AV.int IntKind.i64 ((↑p : Int) - (1 : Int) - (1 : Int)), .any, .any, .any, .any, .any, .any, .any, .any, .any, .any, .any, .any, .any, .any, .any] [some (Blk.mk false (42 : TypeId) 6 true (List.map enE o)), some (Blk.mk false (42 : TypeId) 6 true (List.map enE n)), some (Blk.mk true (nat_lit 46) 1 false [AV.vsl ((0 : Nat) + (1 : Nat) + (1 : Nat) + (1 : Nat) + (1 : Nat) + (1 : Nat) + (1 : Nat) + (1 : Nat) + (1 : Nat) + (1 : Nat) + (1 : Nat)) 0 (List.length (sgV o n p) + (1 : Nat))]), some (Blk.mk true (nat_lit 105) 1 false [AV.func (Fn.func (nat_lit 92)) [] [AV.ptr ((0 : Nat) + (1 : Nat) + (1 : Nat) + (1 : Nat) + (1 : Nat) + (1 : Nat)) 0 0 true]]), none, some (Blk.mk true (nat_lit 133) 1 false [AV.mp ((0 : Nat) + (1 : Nat) + (1 : Nat) + (1 : Nat) + (1 : Nat) + (1 : Nat) + (1 : Nat))]), some (Blk.mk true (133 : TypeId) 0 true (fiR (fwL n 0))), some (Blk.mk true (42 : TypeId) 6 true (enR (onE o))), some (Blk.mk true (42 : TypeId) 6 true (enR (soE o))), some (Blk.mk true (nat_lit 31) 1 false [AV.vsl ((0 : Nat) + (1 : Nat) + (1 : Nat) + (1 : Nat) + (1 : Nat) + (1 : Nat) + (1 : Nat) + (1 : Nat) + (1 : Nat)) 0 (List.length (enR (soE o)))]), some (Blk.mk true 59 7 true (spR (sgV o n (p - (1 : Nat)))))] = sgS2 o n l p' ∧ Nat.le p' (List.length (soE o)) ∧ p' < p) ∨ ∃ (q : Nat), St.mk [AV.func (Fn.yield l) [] [], AV.ptr ((0 : Nat) + (1 : Nat) + (1 : Nat) + (1 : Nat) + (1 : Nat) + (1 : Nat) + (1 : Nat) + (1 : Nat) + (1 : Nat) + (1 : Nat)) 0 0 true, .any, AV.int IntKind.i64 ((↑p : Int) - (1 : Int) - (1 : Int)), .any, .any, .any, .any, .any, .any, .any, .any, .any, .any, .any, .any, .any, .any, .any] [some (Blk.mk false (42 : TypeId) 6 true (List.map enE o)), some (Blk.mk false (42 : TypeId) 6 true (List.map enE n)), some (Blk.mk true (nat_lit 46) 1 false [AV.vsl ((0 : Nat) + (1 : Nat) + (1 : Nat) + (1 : Nat) + (1 : Nat) + (1 : Nat) + (1 : Nat) + (1 : Nat) + (1 : Nat) + (1 : Nat) + (1 : Nat)) 0 (List.length (sgV o n p) + (1 : Nat))]), some (Blk.mk true (nat_lit 105) 1 false [AV.func (Fn.func (nat_lit 92)) [] [AV.ptr ((0 : Nat) + (1 : Nat) + (1 : Nat) + (1 : Nat) + (1 : Nat) + (1 : Nat)) 0 0 true]]), none, some (Blk.mk true (nat_lit 133) 1 false [AV.mp ((0 : Nat) + (1 : Nat) + (1 : Nat) + (1 : Nat) + (1 : Nat) + (1 : Nat) + (1 : Nat))]), some (Blk.mk true (133 : TypeId) 0 true (fiR (fwL n 0))), some (Blk.mk true (42 : TypeId) 6 true (enR (onE o))), some (Blk.mk true (42 : TypeId) 6 true (enR (soE o))), some (Blk.mk true (nat_lit 31) 1 false [AV.vsl ((0 : Nat) + (1 : Nat) + (1 : Nat) + (1 : Nat) + (1 : Nat) + (1 : Nat) + (1 : Nat) + (1 : Nat) + (1 : Nat)) 0 (List.length (enR (soE o)))]), some (Blk.mk true 59 7 true (spR (sgV o n (p - (1 : Nat)))))] = sgS3 o n l q ∧ Nat.le q (List.length (soE o)) ∧ q < p)) ∧ ((!fqB n (at' (soE o) (p - (1 : Nat)))) = false → inRange IntKind.i64 ((↑p : Int) - (1 : Int) - (1 : Int)) ∧ ((∃ (p' : Nat), St.mk [AV.func (Fn.yield l) [] [], AV.ptr ((0 : Nat) + (1 : Nat) + (1 : Nat) + (1 : Nat) + (1 : Nat) + (1 : Nat) + (1 : Nat) + (1 : Nat) + (1 : Nat) + (1 : Nat)) 0 0 true, .any, AV.int IntKind.i64 ((↑p : Int) - (1 : Int) - (1 : Int)), .any, .any, .any, .any, .any, .any, .any, .any, .any, .any, .any, .any, .any, .any, .any] [some (Blk.mk false (42 : TypeId) 6 true (List.map enE o)), some (Blk.mk false (42 : TypeId) 6 true (List.map enE n)), some (Blk.mk true (nat_lit 46) 1 false [AV.vsl ((0 : Nat) + (1 : Nat) + (1 : Nat) + (1 : Nat) + (1 : Nat)) 0 (List.length (sgV o n p))]), some (Blk.mk true (nat_lit 105) 1 false [AV.func (Fn.func (nat_lit 92)) [] [AV.ptr ((0 : Nat) + (1 : Nat) + (1 : Nat) + (1 : Nat) + (1 : Nat) + (1 : Nat)) 0 0 true]]), some (Blk.mk true (59 : TypeId) 7 true (spR (sgV o n p))), some (Blk.mk true (nat_lit 133) 1 false [AV.mp ((0 : Nat) + (1 : Nat) + (1 : Nat) + (1 : Nat) + (1 : Nat) + (1 : Nat) + (1 : Nat))]), some (Blk.mk true (133 : TypeId) 0 true (fiR (fwL n 0))), some (Blk.mk true (42 : TypeId) 6 true (enR (onE o))), some (Blk.mk true (42 : TypeId) 6 true (enR (soE o))), some (Blk.mk true (nat_lit 31) 1 false [AV.vsl ((0 : Nat) + (1 : Nat) + (1 : Nat) + (1 : Nat) + (1 : Nat) + (1 : Nat) + (1 : Nat) + (1 : Nat) + (1 : Nat)) 0 (List.length (enR (soE o)))])] = sgS2 o n l p' ∧ Nat.le p' (List.length (soE o)) ∧ p' < p) ∨ ∃ (q : Nat), St.mk [AV.func (Fn.yield l) [] [], AV.ptr ((0 : Nat) + (1 : Nat) + (1 : Nat) + (1 : Nat) + (1 : Nat) + (1 : Nat) + (1 : Nat) + (1 : Nat) + (1 : Nat) + (1 : Nat)) 0 0 true, .any, AV.int IntKind.i64 ((↑p : Int) - (1 : Int) - (1 : Int)), .any, .any, .any, .any, .any, .any, .any, .any, .any, .any, .any, .any, .any, .any, .any] [some (Blk.mk false (42 : TypeId) 6 true (List.map enE o)), some (Blk.mk false (42 : TypeId) 6 true (List.map enE n)), some (Blk.mk true (nat_lit 46) 1 false [AV.vsl ((0 : Nat) + (1 : Nat) + (1 : Nat) + (1 : Nat) + (1 : Nat)) 0 (List.length (sgV o n p))]), some (Blk.mk true (nat_lit 105) 1 false [AV.func (Fn.func (nat_lit 92)) [] [AV.ptr ((0 : Nat) + (1 : Nat) + (1 : Nat) + (1 : Nat) + (1 : Nat) + (1 : Nat)) 0 0 true]]), some (Blk.mk true (59 : TypeId) 7 true (spR (sgV o n p))), some (Blk.mk true (nat_lit 133) 1 false [AV.mp ((0 : Nat) + (1 : Nat) + (1 : Nat) + (1 : Nat) + (1 : Nat) + (1 : Nat) + (1 : Nat))]), some (Blk.mk true (133 : TypeId) 0 true (fiR (fwL n 0))), some (Blk.mk true (42 : TypeId) 6 true (enR (onE o))), some (Blk.mk true (42 : TypeId) 6 true (enR (soE o))), some (Blk.mk true (nat_lit 31) 1 false [AV.vsl ((0 : Nat) + (1 : Nat) + (1 : Nat) + (1 : Nat) + (1 : Nat) + (1 : Nat) + (1 : Nat) + (1 : Nat) + (1 : Nat)) 0 (List.length (enR (soE o)))])] = sgS3 o n l q ∧ Nat.le q (List.length (soE o)) ∧ q < p))) ∧ (Decidable.decide ((↑p : Int) - (1 : Int) ≥ (0 : Int)) = false → List.length (sgV o n p) = List.length es ∧ some (Blk.mk true (59 : TypeId) 7 true (spR (sgV o n p))) = some (Blk.mk true (59 : TypeId) 7 true es))) ∧ ∀ (q : Nat), Nat.le q (List.length (soE o)) → (Decidable.decide ((↑q : Int) - (1 : Int) ≥ (0 : Int)) = true → ((0 : Int) ≤ (↑q : Int) - (1 : Int) ∧ (↑q : Int) - (1 : Int) < (↑(List.length (enR (soE o))) : Int)) ∧ Blk.read Proofs.Try.prog (Blk.mk true (42 : TypeId) 6 true (enR (soE o))) 42 ((0 : Nat) + Int.toNat ((↑q : Int) - (1 : Int))) 0 = some (AV.agg [AV.w64 (at' (soE o) (q - (1 : Nat))).1, AV.w64 (at' (soE o) (q - (1 : Nat))).2, AV.w64 (at' (soE o) (q - (1 : Nat))).3, AV.w64 (at' (soE o) (q - (1 : Nat))).4, AV.int IntKind.i64 (at' (soE o) (q - (1 : Nat))).5, AV.int IntKind.i64 (at' (soE o) (q - (1 : Nat))).6]) ∧ l = l ∧ mlook 133 (List.map fiA (fwL n 0)) (AV.agg [AV.w64 (at' (soE o) (q - (1 : Nat))).1, AV.w64 (at' (soE o) (q - (1 : Nat))).2, AV.w64 (at' (soE o) (q - (1 : Nat))).3, AV.w64 (at' (soE o) (q - (1 : Nat))).4, AV.int IntKind.i64 (at' (soE o) (q - (1 : Nat))).5, AV.int IntKind.i64 0]) true (AV.tuple [AV.int IntKind.i64 (fqI n (at' (soE o) (q - (1 : Nat)))), AV.bool (fqB n (at' (soE o) (q - (1 : Nat))))]) ∧ ((!fqB n (at' (soE o) (q - (1 : Nat)))) = true → ((List.length (sgV o n q) + (1 : Nat)) * (56 : Nat) ≤ (140737488355328 : Nat) ∧ List.length (sgV o n q) + (1 : Nat) ≤ (9223372036854775807 : Nat) ∧ (0 : Nat) + (1 : Nat) ≤ List.length [AV.agg [AV.int IntKind.i64 2, AV.w64 (at' (soE o) (q - (1 : Nat))).1, AV.w64 (at' (soE o) (q - (1 : Nat))).2, AV.w64 (at' (soE o) (q - (1 : Nat))).3, AV.w64 (at' (soE o) (q - (1 : Nat))).4, AV.int IntKind.i64 (at' (soE o) (q - (1 : Nat))).5, AV.int IntKind.i64 (at' (soE o) (q - (1 : Nat))).6]] ∧ List.length (sgV o n q) ≤ List.length (List.map spE (sgV o n q))) ∧ List.take (List.length (sgV o n q)) (List.map spE (sgV o n q)) ++ [AV.agg [AV.int IntKind.i64 2, AV.w64 (at' (soE o) (q - (1 : Nat))).1, AV.w64 (at' (soE o) (q - (1 : Nat))).2, AV.w64 (at' (soE o) (q - (1 : Nat))).3, AV.w64 (at' (soE o) (q - (1 : Nat))).4, AV.int IntKind.i64 (at' (soE o) (q - (1 : Nat))).5, AV.int IntKind.i64 (at' (soE o) (q - (1 : Nat))).6]] = spR (sgV o n (q - (1 : Nat))) ∧ inRange IntKind.i64 ((↑q : Int) - (1 : Int) - (1 : Int)) ∧ ((∃ (p : Nat), St.mk [AV.func (Fn.yield l) [] [], AV.ptr ((0 : Nat) + (1 : Nat) + (1 : Nat) + (1 : Nat) + (1 : Nat) + (1 : Nat) + (1 : Nat) + (1 : Nat) + (1 : Nat) + (1 : Nat)) 0 0 true, .any, AV.int IntKind.i64 ((↑q : Int) - (1 : Int) - (1 : Int)), .any, .any, .any, .any, .any, .any, .any, .any, .any, .any, .any, .any, .any, .any, .any] [some (Blk.mk false (42 : TypeId) 6 true (List.map enE o)), some (Blk.mk false (42 : TypeId) 6 true (List.map enE n)), some (Blk.mk true (nat_lit 46) 1 false [AV.vsl ((0 : Nat) + (1 : Nat) + (1 : Nat) + (1 : Nat) + (1 : Nat) + (1 : Nat) + (1 : Nat) + (1 : Nat) + (1 : Nat) + (1 : Nat) + (1 : Nat)) 0 (List.length (sgV o n q) + (1 : Nat))]), some (Blk.mk true (nat_lit 105) 1 false [AV.func (Fn.func (nat_lit 92)) [] [AV.ptr ((0 : Nat) + (1 : Nat) + (1 : Nat) + (1 : Nat) + (1 : Nat) + (1 : Nat)) 0 0 true]]), none, some (Blk.mk true (nat_lit 133) 1 false [AV.mp ((0 : Nat) + (1 : Nat) + (1 : Nat) + (1 : Nat) + (1 : Nat) + (1 : Nat) + (1 : Nat))]), some (Blk.mk true (133 : TypeId) 0 true (fiR (fwL n 0))), some (Blk.mk true (42 : TypeId) 6 true (enR (onE o))), some (Blk.mk true (42 : TypeId) 6 true (enR (soE o))), some (Blk.mk true (nat_lit 31) 1 false [AV.vsl ((0 : Nat) + (1 : Nat) + (1 : Nat) + (1 : Nat) + (1 : Nat) + (1 : Nat) + (1 : Nat) + (1 : Nat) + (1 : Nat)) 0 (List.length (enR (soE o)))]), some (Blk.mk true 59 7 true (spR (sgV o n (q - (1 : Nat)))))] = sgS2 o n l p ∧ Nat.le p (List.length (soE o)) ∧ p < q) ∨ ∃ (q' : Nat), St.mk [AV.func (Fn.yield l) [] [], AV.ptr ((0 : Nat) + (1 : Nat) + (1 : Nat) + (1 : Nat) + (1 : Nat) + (1 : Nat) + (1 : Nat) + (1 : Nat) + (1 : Nat) + (1 : Nat)) 0 0 true, .any, AV.int IntKind.i64 ((↑q : Int) - (1 : Int) - (1 : Int)), .any, .any, .any, .any, .any, .any, .any, .any, .any, .any, .any, .any, .any, .any, .any] [some (Blk.mk false (42 : TypeId) 6 true (List.map enE o)), some (Blk.mk false (42 : TypeId) 6 true (List.map enE n)), some (Blk.mk true (nat_lit 46) 1 false [AV.vsl ((0 : Nat) + (1 : Nat) + (1 : Nat) + (1 : Nat) + (1 : Nat) + (1 : Nat) + (1 : Nat) + (1 : Nat) + (1 : Nat) + (1 : Nat) + (1 : Nat)) 0 (List.length (sgV o n q) + (1 : Nat))]), some (Blk.mk true (nat_lit 105) 1 false [AV.func (Fn.func (nat_lit 92)) [] [AV.ptr ((0 : Nat) + (1 : Nat) + (1 : Nat) + (1 : Nat) + (1 : Nat) + (1 : Nat)) 0 0 true]]), none, some (Blk.mk true (nat_lit 133) 1 false [AV.mp ((0 : Nat) + (1 : Nat) + (1 : Nat) + (1 : Nat) + (1 : Nat) + (1 : Nat) + (1 : Nat))]), some (Blk.mk true (133 : TypeId) 0 true (fiR (fwL n 0))), some (Blk.mk true (42 : TypeId) 6 true (enR (onE o))), some (Blk.mk true (42 : TypeId) 6 true (enR (soE o))), some (Blk.mk true (nat_lit 31) 1 false [AV.vsl ((0 : Nat) + (1 : Nat) + (1 : Nat) + (1 : Nat) + (1 : Nat) + (1 : Nat) + (1 : Nat) + (1 : Nat) + (1 : Nat)) 0 (List.length (enR (soE o)))]), some (Blk.mk true 59 7 true (spR (sgV o n (q - (1 : Nat)))))] = sgS3 o n l q' ∧ Nat.le q' (List.length (soE o)) ∧ q' < q)) ∧ ((!fqB n (at' (soE o) (q - (1 : Nat)))) = false → inRange IntKind.i64 ((↑q : Int) - (1 : Int) - (1 : Int)) ∧ ((∃ (p : Nat), St.mk [AV.func (Fn.yield l) [] [], AV.ptr ((0 : Nat) + (1 : Nat) + (1 : Nat) + (1 : Nat) + (1 : Nat) + (1 : Nat) + (1 : Nat) + (1 : Nat) + (1 : Nat) + (1 : Nat)) 0 0 true, .any, AV.int IntKind.i64 ((↑q : Int) - (1 : Int) - (1 : Int)), .any, .any, .any, .any, .any, .any, .any, .any, .any, .any, .any, .any, .any, .any, .any] [some (Blk.mk false (42 : TypeId) 6 true (List.map enE o)), some (Blk.mk false (42 : TypeId) 6 true (List.map enE n)), some (Blk.mk true (nat_lit 46) 1 false [AV.vsl ((0 : Nat) + (1 : Nat) + (1 : Nat) + (1 : Nat) + (1 : Nat) + (1 : Nat) + (1 : Nat) + (1 : Nat) + (1 : Nat) + (1 : Nat) + (1 : Nat)) 0 (List.length (sgV o n q))]), some (Blk.mk true (nat_lit 105) 1 false [AV.func (Fn.func (nat_lit 92)) [] [AV.ptr ((0 : Nat) + (1 : Nat) + (1 : Nat) + (1 : Nat) + (1 : Nat) + (1 : Nat)) 0 0 true]]), none, some (Blk.mk true (nat_lit 133) 1 false [AV.mp ((0 : Nat) + (1 : Nat) + (1 : Nat) + (1 : Nat) + (1 : Nat) + (1 : Nat) + (1 : Nat))]), some (Blk.mk true (133 : TypeId) 0 true (fiR (fwL n 0))), some (Blk.mk true (42 : TypeId) 6 true (enR (onE o))), some (Blk.mk true (42 : TypeId) 6 true (enR (soE o))), some (Blk.mk true (nat_lit 31) 1 false [AV.vsl ((0 : Nat) + (1 : Nat) + (1 : Nat) + (1 : Nat) + (1 : Nat) + (1 : Nat) + (1 : Nat) + (1 : Nat) + (1 : Nat)) 0 (List.length (enR (soE o)))]), some (Blk.mk true (59 : TypeId) 7 true (spR (sgV o n q)))] = sgS2 o n l p ∧ Nat.le p (List.length (soE o)) ∧ p < q) ∨ ∃ (q' : Nat), St.mk [AV.func (Fn.yield l) [] [], AV.ptr ((0 : Nat) + (1 : Nat) + (1 : Nat) + (1 : Nat) + (1 : Nat) + (1 : Nat) + (1 : Nat) + (1 : Nat) + (1 : Nat) + (1 : Nat)) 0 0 true, .any, AV.int IntKind.i64 ((↑q : Int) - (1 : Int) - (1 : Int)), .any, .any, .any, .any, .any, .any, .any, .any, .any, .any, .any, .any, .any, .any, .any] [some (Blk.mk false (42 : TypeId) 6 true (List.map enE o)), some (Blk.mk false (42 : TypeId) 6 true (List.map enE n)), some (Blk.mk true (nat_lit 46) 1 false [AV.vsl ((0 : Nat) + (1 : Nat) + (1 : Nat) + (1 : Nat) + (1 : Nat) + (1 : Nat) + (1 : Nat) + (1 : Nat) + (1 : Nat) + (1 : Nat) + (1 : Nat)) 0 (List.length (sgV o n q))]), some (Blk.mk true (nat_lit 105) 1 false [AV.func (Fn.func (nat_lit 92)) [] [AV.ptr ((0 : Nat) + (1 : Nat) + (1 : Nat) + (1 : Nat) + (1 : Nat) + (1 : Nat)) 0 0 true]]), none, some (Blk.mk true (nat_lit 133) 1 false [AV.mp ((0 : Nat) + (1 : Nat) + (1 : Nat) + (1 : Nat) + (1 : Nat) + (1 : Nat) + (1 : Nat))]), some (Blk.mk true (133 : TypeId) 0 true (fiR (fwL n 0))), some (Blk.mk true (42 : TypeId) 6 true (enR (onE o))), some (Blk.mk true (42 : TypeId) 6 true (enR (soE o))), some (Blk.mk true (nat_lit 31) 1 false [AV.vsl ((0 : Nat) + (1 : Nat) + (1 : Nat) + (1 : Nat) + (1 : Nat) + (1 : Nat) + (1 : Nat) + (1 : Nat) + (1 : Nat)) 0 (List.length (enR (soE o)))]), some (Blk.mk true (59 : TypeId) 7 true (spR (sgV o n q)))] = sgS3 o n l q' ∧ Nat.le q' (List.length (soE o)) ∧ q' < q))) ∧ (Decidable.decide ((↑q : Int) - (1 : Int) ≥ (0 : Int)) = false → List.length (sgV o n q) = List.length es ∧ some (Blk.mk true (59 : TypeId) 7 true (spR (sgV o n q))) = some (Blk.mk true (59 : TypeId) 7 true es)))))) := by kernel_rfl

theorem gsteps11Cs_ok : ∀ e ∈ gsteps11Cs, SpecOK Try.prog e.1 e.2 := by
  intro e he
  simp only [gsteps11Cs, List.mem_cons, List.not_mem_nil, or_false] at he
  rcases he with rfl | rfl
  · exact gonce11_ok
  · exact esort_ok

theorem gsteps11_ok : SpecOK Try.prog 24 (genSpec [pEn, pEn] gsteps11F) := by
  refine genSpec_ok (run_ok (l := gsteps11Cs) gsteps11Cs_ok mixed noNG) fun l R hF => ?_
  unfold gsteps11F at hF
  split at hF
  · rename_i r_o r_n
    obtain ⟨hr_o, ho, hF⟩ := hF
    generalize deE r_o = o at hr_o ho hF
    subst hr_o
    obtain ⟨hr_n, hn, hF⟩ := hF
    generalize deE r_n = n at hr_n hn hF
    subst hr_n
    refine ⟨_, hF, trivial, (sgH o n), ?_⟩
    show run gsteps11Cs Try.prog _ [.vsl 0 0 (o.map enE).length, .vsl 1 0 (n.map enE).length] [some ⟨false, (pEn.getD (0, 0)).1, (pEn.getD (0, 0)).2, true, (o.map enE)⟩, some ⟨false, (pEn.getD (0, 0)).1, (pEn.getD (0, 0)).2, true, (n.map enE)⟩] _ _
    rw [gsteps11_run]
    have hom : (o.map enE).length = o.length := List.length_map _
    have hnm : (n.map enE).length = n.length := List.length_map _
    have dR : ∀ L, deE (enR L) = L := deE_map
    have lR : ∀ L, (enR L).length = L.length := fun L => List.length_map _
    have lS : ∀ L, (List.map spE L).length = L.length := fun L => List.length_map _
    have hoo := (onE_spec o).2.1.length_le
    have hon := (onE_spec n).2.1.length_le
    have hso : (soE o).length = (onE o).length := srE_length _
    have hsn : (soE n).length = (onE n).length := srE_length _
    have hu : ∀ p, (sgU o n p).length ≤ p := suU_le _ _
    have hv : ∀ k, (sgV o n k).length ≤ (soE n).length + ((soE o).length - k) := fun k => suV_le _ _ _
    have round : ∀ {l : List En} {k : Nat}, l.length ≤ 1000000 → k ≤ l.length → decide ((k : Int) - 1 ≥ 0) = true → 0 < k ∧ ((k - 1 : Nat) : Int) = (k : Int) - 1 ∧ ((k : Int) - 1).toNat = k - 1 ∧ (0 ≤ (k : Int) - 1 ∧ (k : Int) - 1 < l.length) ∧ inRange .i64 ((k : Int) - 1 - 1) ∧ k - 1 ≤ l.length ∧ k - 1 < k := fun h1 h2 h => by
      have hk := of_decide_eq_true h
      exact ⟨by omega, by omega, by omega, ⟨by omega, by omega⟩, inR (by omega) (by omega), by omega, by omega⟩
    have put : ∀ {l : List En} {k : Nat}, k ≤ l.length → 0 < k → ((k - 1 : Nat) : Int) = (k : Int) - 1 → fiR (fwL l (k - 1)) = List.map fiA ((zA (at' l (k - 1)), (k : Int) - 1) :: fwL l k) := fun {l k} h1 h2 ek => by
      have e := fwL_next (l := l) (k := k - 1) (by omega)
      rw [show k - 1 + 1 = k from by omega, ek] at e
      unfold fiR
      rw [e]
    intro y
    refine ⟨inR (by omega) (by omega), ⟨by unfold fqSt; rw [fwL_end, hom]; rfl, Nat.le_refl _⟩, ?_⟩
    intro k (hk0 : k ≤ o.length)
    refine ⟨fun hge => ?_, fun hlt => ?_⟩
    · obtain ⟨hk, ek, ej, B, hi, hle, hlt⟩ := round ho hk0 hge
      rw [← hom] at B
      exact ⟨B, read_rows B.1 B.2 (by rw [ej]; exact en_whole _), rfl, ⟨rfl, fwL o k, zA (at' o (k - 1)), (k : Int) - 1, rfl, rfl, rfl, put hk0 hk ek⟩, hi, k - 1, by unfold fqSt; rw [ek]; rfl, hle, hlt⟩
    · obtain rfl : k = 0 := by have := of_decide_eq_false hlt; omega
      intro y2
      refine ⟨inR (by omega) (by omega), ⟨by unfold fqSt; rw [fwL_end, hnm]; rfl, Nat.le_refl _⟩, ?_⟩
      intro k (hk0 : k ≤ n.length)
      refine ⟨fun hge => ?_, fun hlt => ?_⟩
      · obtain ⟨hk, ek, ej, B, hi, hle, hlt⟩ := round hn hk0 hge
        rw [← hnm] at B
        exact ⟨B, read_rows B.1 B.2 (by rw [ej]; exact en_whole _), rfl, ⟨rfl, fwL n k, zA (at' n (k - 1)), (k : Int) - 1, rfl, rfl, rfl, put hk0 hk ek⟩, hi, k - 1, by unfold fqSt; rw [ek]; rfl, hle, hlt⟩
      · obtain rfl : k = 0 := by have := of_decide_eq_false hlt; omega
        clear hlt hk0
        have wR : ∀ L, List.take (enR L).length (List.drop 0 (enR L)) = enR L := whole_row enE
        simp only [whole_row, deE_map, wR, dR, zLe, true_and, eq_self]
        refine ⟨by omega, ⟨rfl, by rw [lR, List.length_map]⟩, rfl, by omega, ⟨rfl, by rw [lR, List.length_map]; rfl⟩, ⟨rfl, Nat.zero_le _⟩, ?_⟩
        intro p (hp0 : p ≤ (soE n).length)
        have hup := hu p
        have i1 : inRange .i64 ((p : Int) + 1) := inR (by omega) (by omega)
        refine ⟨fun hlt => ?_, fun hge => ?_⟩
        · have hp : p < (soE n).length := by have := of_decide_eq_true hlt; rw [lR] at this; omega
          have B : 0 ≤ (p : Int) ∧ (p : Int) < (((soE n).map enE).length : Int) := by rw [List.length_map]; omega
          have hx : sgU o n (p + 1) = sgU o n p ++ stU (soE o) (at' (soE n) p) := suU_next hp
          rw [st_u] at hx
          have add : ∀ j : Int, sgU o n (p + 1) = sgU o n p ++ [⟨j, at' (soE n) p⟩] → (((sgU o n p).length + 1) * 56 ≤ 140737488355328 ∧ (sgU o n p).length + 1 ≤ 9223372036854775807 ∧ 0 + 1 ≤ List.length [spE ⟨j, at' (soE n) p⟩] ∧ (sgU o n p).length ≤ (List.map spE (sgU o n p)).length) ∧
              List.take (sgU o n p).length (List.map spE (sgU o n p)) ++ [spE ⟨j, at' (soE n) p⟩] = spR (sgU o n (p + 1)) ∧ (sgU o n (p + 1)).length = (sgU o n p).length + 1 := fun j e => by
            refine ⟨⟨by omega, by omega, Nat.le_refl _, by rw [lS]; exact Nat.le_refl _⟩, ?_, by rw [e, List.length_append]; rfl⟩
            rw [List.take_of_length_le (by rw [lS]; exact Nat.le_refl _), e]
            show _ = List.map spE _
            rw [List.map_append]; rfl
          refine ⟨B, read_rows B.1 B.2 (en_whole _), ⟨rfl, fwL o 0, zA (at' (soE n) p), rfl, rfl, rfl⟩, fun h => ?_, fun h => ?_⟩
          · rw [if_pos (notTT h)] at hx
            obtain ⟨a1, a2, a3⟩ := add 0 hx
            exact ⟨a1, a2, i1, p + 1, by unfold sgS1 sgS sgP; rw [a3]; rfl, hp, by omega⟩
          · have h := notF h
            rw [if_neg (by rw [h]; simp)] at hx
            rcases fq_so o (at' (soE n) p) with ⟨h1, _⟩ | ⟨_, _, q1, q2, _⟩
            · rw [h] at h1; cases h1
            have Bq : 0 ≤ fqI o (at' (soE n) p) ∧ fqI o (at' (soE n) p) < ((o.map enE).length : Int) := by omega
            refine ⟨Bq, read_rows Bq.1 Bq.2 (en_act _), fun hne => ?_, fun he => ?_⟩
            · rw [if_neg (by simpa using hne)] at hx
              obtain ⟨a1, a2, a3⟩ := add 1 hx
              exact ⟨a1, a2, i1, p + 1, by unfold sgS1 sgS sgP; rw [a3]; rfl, hp, by omega⟩
            · rw [if_pos (by simpa using he), List.append_nil] at hx
              exact ⟨i1, p + 1, by unfold sgS1 sgS sgP; rw [hx]; rfl, hp, by omega⟩
        · have hp : p = (soE n).length := by have := of_decide_eq_false hge; rw [lR] at this; omega
          subst hp
          have e0 : sgV o n (soE o).length = sgU o n (soE n).length := by
            show suV _ _ _ = suU _ _ _
            unfold suV suU
            rw [Nat.sub_self, List.take_zero, List.flatMap_nil, List.append_nil, List.take_length]
          refine ⟨by omega, ⟨rfl, by rw [lR, List.length_map]⟩, rfl, by omega, ⟨rfl, by rw [lR, List.length_map]; rfl⟩, ?_⟩
          intro y3
          have step : ∀ k, 0 < k → k ≤ (soE o).length → sgV o n (k - 1) = sgV o n k ++ stV (soE n) (at' (soE o) (k - 1)) := fun k h1 h2 => by
            have e := suV_next (a := soE o) (b := soE n) (p := (soE o).length - k) (by omega)
            rw [show (soE o).length - k + 1 = (soE o).length - (k - 1) from by omega, show (soE o).length - 1 - ((soE o).length - k) = k - 1 from by omega] at e
            exact e
          have add : ∀ k, sgV o n (k - 1) = sgV o n k ++ [⟨2, at' (soE o) (k - 1)⟩] → (((sgV o n k).length + 1) * 56 ≤ 140737488355328 ∧ (sgV o n k).length + 1 ≤ 9223372036854775807 ∧ 0 + 1 ≤ List.length [spE ⟨2, at' (soE o) (k - 1)⟩] ∧ (sgV o n k).length ≤ (List.map spE (sgV o n k)).length) ∧
              List.take (sgV o n k).length (List.map spE (sgV o n k)) ++ [spE ⟨2, at' (soE o) (k - 1)⟩] = spR (sgV o n (k - 1)) ∧ (sgV o n (k - 1)).length = (sgV o n k).length + 1 := fun k e => by
            have hvk := hv k
            refine ⟨⟨by omega, by omega, Nat.le_refl _, by rw [lS]; exact Nat.le_refl _⟩, ?_, by rw [e, List.length_append]; rfl⟩
            rw [List.take_of_length_le (by rw [lS]; exact Nat.le_refl _), e]
            show _ = List.map spE _
            rw [List.map_append]; rfl
          have fin : sgV o n 0 = stE o n := by
            show suV _ _ _ = stS _ _
            unfold suV stS
            rw [Nat.sub_zero, ← List.length_reverse, List.take_length]; rfl
          refine ⟨inR (by rw [lR]; omega) (by rw [lR]; omega), ⟨by unfold sgS2; rw [e0, lR]; rfl, Nat.le_refl _⟩, fun k hk0 => ⟨fun hge => ?_, fun hlt => ?_⟩, fun k hk0 => ⟨fun hge => ?_, fun hlt => ?_⟩⟩
          · have hk0 : k ≤ (soE o).length := hk0
            obtain ⟨hk, ek, ej, B, hi, hle, hlt⟩ := round (by omega) hk0 hge
            have B : 0 ≤ (k : Int) - 1 ∧ (k : Int) - 1 < (((soE o).map enE).length : Int) := by rw [List.length_map]; exact B
            have hx := step k hk hk0
            rw [st_v] at hx
            refine ⟨B, read_rows B.1 B.2 (by rw [ej]; exact en_whole _), ⟨rfl, fwL n 0, zA (at' (soE o) (k - 1)), rfl, rfl, rfl⟩, fun h => ?_, fun h => ?_⟩
            · rw [if_pos (notTT h)] at hx
              obtain ⟨a1, a2, a3⟩ := add k hx
              exact ⟨a1, a2, hi, .inr ⟨k - 1, by unfold sgS3 sgS sgP; rw [a3, ek]; rfl, hle, hlt⟩⟩
            · rw [if_neg (by rw [notF h]; simp), List.append_nil] at hx
              exact ⟨hi, .inl ⟨k - 1, by unfold sgS2 sgS sgP; rw [hx, ek]; rfl, hle, hlt⟩⟩
          · obtain rfl : k = 0 := by have := of_decide_eq_false hlt; omega
            rw [fin]
            exact ⟨(List.length_map _).symm, rfl⟩
          · have hk0 : k ≤ (soE o).length := hk0
            obtain ⟨hk, ek, ej, B, hi, hle, hlt⟩ := round (by omega) hk0 hge
            have B : 0 ≤ (k : Int) - 1 ∧ (k : Int) - 1 < (((soE o).map enE).length : Int) := by rw [List.length_map]; exact B
            have hx := step k hk hk0
            rw [st_v] at hx
            refine ⟨B, read_rows B.1 B.2 (by rw [ej]; exact en_whole _), ⟨rfl, fwL n 0, zA (at' (soE o) (k - 1)), rfl, rfl, rfl⟩, fun h => ?_, fun h => ?_⟩
            · rw [if_pos (notTT h)] at hx
              obtain ⟨a1, a2, a3⟩ := add k hx
              exact ⟨a1, a2, hi, .inr ⟨k - 1, by unfold sgS3 sgS sgP; rw [a3, ek]; rfl, hle, hlt⟩⟩
            · rw [if_neg (by rw [notF h]; simp), List.append_nil] at hx
              exact ⟨hi, .inr ⟨k - 1, by unfold sgS3 sgS sgP; rw [hx, ek]; rfl, hle, hlt⟩⟩
          · obtain rfl : k = 0 := by have := of_decide_eq_false hlt; omega
            rw [fin]
            exact ⟨(List.length_map _).symm, rfl⟩
  · exact hF.elim


end Go.Proofs.Ytnjbgbdcbejciaa.L1
end

section
/-
  Layer 11: the program's Do.
-/
namespace Go.Proofs.Ytnjbgbdcbejciaa.L1
open Go.Sx Go.Sx.M

/-- A row whose first p entries have been set. -/
def seE (l : List En) (s : Sp) (p : Nat) : List En := (l.take p).map (fun x => if alE x s.e then s.e else x) ++ l.drop p
/-- Of the first j entries those that stay; the row that they are written into. -/
def keE (l : List En) (s : Sp) (j : Nat) : List En := (l.take j).filter fun x => !alE x s.e
def dkE (l : List En) (s : Sp) (j : Nat) : List En := keE l s j ++ l.drop (keE l s j).length
def zeE : En := ⟨0#64, 0#64, 0#64, 0#64, 0, 0⟩

theorem seE_len (l : List En) (s : Sp) (p : Nat) : (seE l s p).length = l.length := by
  unfold seE
  rw [List.length_append, List.length_map, ← List.length_append, List.take_append_drop]

theorem seE_at {l : List En} {p : Nat} (hp : p < l.length) (s : Sp) : seE l s p = (l.take p).map (fun x => if alE x s.e then s.e else x) ++ at' l p :: l.drop (p + 1) := by
  unfold seE
  rw [List.drop_eq_getElem_cons hp, show l[p] = at' l p from (Option.some.inj ((List.getElem?_eq_getElem hp).symm.trans (at_get hp)))]

theorem seE_next {l : List En} {p : Nat} (hp : p < l.length) (s : Sp) : seE l s (p + 1) = (seE l s p).set p (if alE (at' l p) s.e then s.e else at' l p) := by
  have hl : ((l.take p).map (fun x => if alE x s.e then s.e else x)).length = p := by rw [List.length_map, List.length_take]; omega
  rw [seE_at hp, List.set_append_right _ _ (by omega), hl, Nat.sub_self, List.set_cons_zero]
  unfold seE
  rw [List.take_add_one, at_get hp]
  simp

theorem keE_le (l : List En) (s : Sp) (j : Nat) : (keE l s j).length ≤ j := Nat.le_trans (List.length_filter_le _ _) (by rw [List.length_take]; omega)
theorem keE_le' (l : List En) (s : Sp) (j : Nat) : (keE l s j).length ≤ l.length := Nat.le_trans (List.length_filter_le _ _) (by rw [List.length_take]; omega)

theorem keE_next {l : List En} {j : Nat} (hj : j < l.length) (s : Sp) : keE l s (j + 1) = keE l s j ++ (if alE (at' l j) s.e then [] else [at' l j]) := by
  unfold keE
  rw [List.take_add_one, at_get hj]
  show ((l.take j) ++ [at' l j]).filter _ = _
  rw [List.filter_append]
  congr 1
  cases h : alE (at' l j) s.e <;> simp [h]

theorem dkE_len (l : List En) (s : Sp) (j : Nat) : (dkE l s j).length = l.length := by
  unfold dkE
  have := keE_le' l s j
  rw [List.length_append, List.length_drop]
  omega

theorem dkE_at {l : List En} {j : Nat} (hj : j < l.length) (s : Sp) : at' (dkE l s j) j = at' l j := by
  have h := keE_le l s j
  have e : (dkE l s j)[j]? = l[j]? := by
    unfold dkE
    rw [List.getElem?_append_right h, List.getElem?_drop]
    congr 1
    omega
  rw [at_get hj, at_get (by rw [dkE_len]; exact hj)] at e
  exact Option.some.inj e

theorem dkE_next {l : List En} {j : Nat} (hj : j < l.length) (s : Sp) : dkE l s (j + 1) = if alE (at' l j) s.e then dkE l s j else (dkE l s j).set (keE l s j).length (at' l j) := by
  have h := keE_le l s j
  have hk := keE_next hj s
  cases ha : alE (at' l j) s.e with
  | true =>
    rw [ha, if_pos rfl, List.append_nil] at hk
    rw [if_pos rfl]
    unfold dkE
    rw [hk]
  | false =>
    rw [ha, if_neg (by simp)] at hk
    rw [if_neg (by simp)]
    unfold dkE
    rw [List.set_append_right _ _ (Nat.le_refl _), Nat.sub_self, List.drop_eq_getElem_cons (show (keE l s j).length < l.length from by omega), List.set_cons_zero, hk, List.length_append]
    simp

def dtR (l : List En) (s : Sp) (r : List En) : Hp := [sgO l, some ⟨true, 59, 7, true, [spE s]⟩, sgE r]
def doC : AV := .func (.func 62) [] [.ptr 1 0 0 true]
def dtSt (l : List En) (s : Sp) (p : Nat) : St :=
  ⟨[.any, .any, .any, .ptr 1 0 0 true, .any, .vsl 2 0 (enR l).length, doC, .any, .any, .any, .any, .any, .any, .any, .any, .any, .any, .any, .any, .any, .any, .any, .any, .vsl 2 0 (enR l).length, .int .i64 (enR l).length, .int .i64 p, .any, .any, .any, .any, .any, .any, .any, .any, .any, .any, .any, .any, .any, .any, .any, .any, .any, .any, .any], dtR l s (seE l s p)⟩
def dtM0 : Modes := ⟨[0, 0, 0, 1, 0, 1, 1, 0, 0, 0, 0, 0, 0, 0, 0, 0, 0, 0, 0, 0, 0, 0, 0, 1, 1, 2, 0, 0, 0, 0, 0, 0, 0, 0, 0, 0, 0, 0, 0, 0, 0, 0, 0, 0, 0], [], [], [], []⟩
def dtM : Modes := ⟨[0, 0, 0, 1, 0, 1, 1, 0, 0, 0, 0, 0, 0, 0, 0, 0, 0, 0, 0, 0, 0, 0, 0, 1, 1, 1, 0, 0, 0, 0, 0, 0, 0, 0, 0, 0, 0, 0, 0, 0, 0, 0, 0, 0, 0], [], [], [], []⟩
def dtM' : Modes := ⟨[0, 0, 0, 0, 0, 1, 0, 0, 0, 0, 0, 0, 0, 0, 0, 0, 0, 0, 0, 0, 0, 0, 0, 0, 0, 0, 0, 0, 0, 0, 0, 0, 0, 0, 0, 0, 0, 0, 0, 0, 0, 0, 0, 0, 0], [0, 1, 2], [1, 1, 1], [], []⟩
def dtH (l : List En) (s : Sp) : List Hint := [.linv _ 0 (dtSt l s) (fun p => p ≤ l.length) (fun p => l.length + 1 - p) dtM0 dtM dtM' (fun _ => []) fun p =>
  [.fork [.dy, .cell (enE (at' l p)), .fork [.dy, .rows (enR (seE l s (p + 1))), .nw] [.nw]] []]]

def diSt (l : List En) (s : Sp) (p : Nat) : St :=
  ⟨[.vsl 2 0 (enR l).length, doC, .any, .any, .any, .any, .vsl 2 0 (enR l).length, .int .i64 (enR l).length, .int .i64 p, .any, .any, .any, .any, .any, .any, .any, .any, .any, .any], dtR l s l⟩
def diM0 : Modes := ⟨[1, 1, 0, 0, 0, 0, 1, 1, 2, 0, 0, 0, 0, 0, 0, 0, 0, 0, 0], [], [], [], []⟩
def diM : Modes := ⟨[1, 1, 0, 0, 0, 0, 1, 1, 1, 0, 0, 0, 0, 0, 0, 0, 0, 0, 0], [], [], [], []⟩
def diM' : Modes := ⟨[0, 0, 0, 0, 1, 0, 0, 0, 0, 0, 0, 0, 0, 0, 0, 0, 0, 0, 0], [], [], [], []⟩
def diI (l : List En) (s : Sp) (p : Nat) : Prop := p ≤ l.length ∧ ∀ j, j < p → alE (at' l j) s.e = false
def dlSt (l : List En) (s : Sp) (j : Nat) : St :=
  ⟨[.vsl 2 0 (enR l).length, doC, .any, .any, .any, .int .i64 (keE l s j).length, .int .i64 j, .any, .any, .any, .any, .any, .any, .any, .any, .any, .any, .any, .any, .any, .any, .any, .any, .any, .any, .any, .any, .any, .any, .any, .any, .any, .any, .any, .any, .any, .any, .any, .any, .any, .any, .any], dtR l s (dkE l s j)⟩
def dlM : Modes := ⟨[1, 1, 0, 0, 0, 1, 1, 0, 0, 0, 0, 0, 0, 0, 0, 0, 0, 0, 0, 0, 0, 0, 0, 0, 0, 0, 0, 0, 0, 0, 0, 0, 0, 0, 0, 0, 0, 0, 0, 0, 0, 0], [], [], [], []⟩
def dlM' : Modes := ⟨[1, 0, 0, 0, 0, 1, 0, 0, 0, 0, 0, 0, 0, 0, 0, 0, 0, 0, 0, 0, 0, 0, 0, 0, 0, 0, 0, 0, 0, 0, 0, 0, 0, 0, 0, 0, 0, 0, 0, 0, 0, 0], [], [], [], []⟩
def dlH (l : List En) (s : Sp) (p : Nat) : List Hint := [.br false, .nw, .linv _ (p + 1) (dlSt l s) (fun j => j ≤ l.length) (fun j => l.length + 1 - j) dlM dlM dlM' (fun _ => []) (fun j =>
    [.fork [.dy, .cell (enE (at' l j)), .fork [.dy, .rows (enR (dkE l s (j + 1))), .nw, .nw] [.nw]] []]),
  .dy, .rows (enR (keE l s l.length ++ List.replicate (l.length - (keE l s l.length).length) zeE)), .dy]
def diH (l : List En) (s : Sp) : List Hint := [.linv _ 0 (diSt l s) (diI l s) (fun p => l.length + 1 - p) diM0 diM diM' (dlH l s) fun p => [.fork [.dy, .cell (enE (at' l p)), .fork [] [.nw]] []]]

def doHs (l : List En) (s : Sp) : List Hint := [.nm (enR l), .fork [.rows (enR (doE l s))] [.fork (dtH l s) [.fork (diH l s) []]]]

noncomputable def gdo11Cs : List (FuncId × Sx.Spec) := [(61, genSpec [pEn] ecloneF),
  (63, genSpec [none, none] ealikeF)]

theorem gdo11Cs_ok : ∀ e ∈ gdo11Cs, SpecOK Try.prog e.1 e.2 := by
  intro e he
  simp only [gdo11Cs, List.mem_cons, List.not_mem_nil, or_false] at he
  rcases he with rfl | rfl
  · exact eclone_ok
  · exact ealike_ok

theorem gdo11_run (l : List En) (i : Int) (v w m n : BitVec 64) (k j : Int) (es : List AV) : preC (run gdo11Cs Try.prog) 31 [.vsl 0 0 (l.map enE).length, .agg [.int .i64 i, .w64 v, .w64 w, .w64 m, .w64 n, .int .i64 k, .int .i64 j]] [some ⟨false, 42, 6, true, l.map enE⟩] (doHs l ⟨i, v, w, m, n, k, j⟩) (yields (.vrow 42 6 es)) =
    ((0 : Nat) + List.length (List.map enE l) ≤ List.length (List.map enE l) ∧ List.take (List.length (List.map enE l)) (List.drop 0 (List.map enE l)) = List.map enE (deE (List.take (List.length (List.map enE l)) (List.drop 0 (List.map enE l)))) ∧ List.length (deE (List.take (List.length (List.map enE l)) (List.drop 0 (List.map enE l)))) ≤ (1000000 : Nat) ∧ (List.map enE (deE (List.take (List.length (List.map enE l)) (List.drop 0 (List.map enE l)))) = enR l ∧ List.length (List.map enE (deE (List.take (List.length (List.map enE l)) (List.drop 0 (List.map enE l))))) = List.length (enR l)) ∧ ((i == (0 : Int)) = true → ((List.length (enR l) + (1 : Nat)) * (48 : Nat) ≤ (140737488355328 : Nat) ∧ List.length (enR l) + (1 : Nat) ≤ (9223372036854775807 : Nat) ∧ (0 : Nat) + (1 : Nat) ≤ List.length [AV.agg [AV.w64 v, AV.w64 w, AV.w64 m, AV.w64 n, AV.int IntKind.i64 k, AV.int IntKind.i64 j]] ∧ List.length (enR l) ≤ List.length (List.map enE l)) ∧ List.take (List.length (enR l)) (List.map enE l) ++ [AV.agg [AV.w64 v, AV.w64 w, AV.w64 m, AV.w64 n, AV.int IntKind.i64 k, AV.int IntKind.i64 j]] = enR (doE l (Sp.mk i (En.mk v w m n k j))) ∧ List.length (enR l) + (1 : Nat) = List.length es ∧ some (Blk.mk true 42 6 true (List.take (List.length (enR l) + (1 : Nat)) (enR (doE l (Sp.mk i (En.mk v w m n k j)))))) = some (Blk.mk true (42 : TypeId) 6 true es)) ∧ ((i == (0 : Int)) = false → ((i == (1 : Int)) = true → (St.mk [.any, .any, .any, AV.ptr ((0 : Nat) + (1 : Nat)) 0 0 true, .any, AV.vsl ((0 : Nat) + (1 : Nat) + (1 : Nat)) 0 (List.length (enR l)), AV.func (Fn.func 62) [] [AV.ptr ((0 : Nat) + (1 : Nat)) 0 0 true], .any, .any, .any, .any, .any, .any, .any, .any, .any, .any, .any, .any, .any, .any, .any, .any, AV.vsl ((0 : Nat) + (1 : Nat) + (1 : Nat)) 0 (List.length (enR l)), AV.int IntKind.i64 (↑(List.length (enR l)) : Int), AV.int IntKind.i64 0, .any, .any, .any, .any, .any, .any, .any, .any, .any, .any, .any, .any, .any, .any, .any, .any, .any, .any, .any] [some (Blk.mk false (42 : TypeId) 6 true (List.map enE l)), some (Blk.mk true 59 7 true [AV.agg [AV.int IntKind.i64 i, AV.w64 v, AV.w64 w, AV.w64 m, AV.w64 n, AV.int IntKind.i64 k, AV.int IntKind.i64 j]]), some (Blk.mk true (42 : TypeId) 6 true (enR l))] = dtSt l (Sp.mk i (En.mk v w m n k j)) 0 ∧ Nat.le 0 (List.length l)) ∧ ∀ (p : Nat), Nat.le p (List.length l) → (Decidable.decide ((↑p : Int) < (↑(List.length (enR l)) : Int)) = true → ((0 : Int) ≤ (↑p : Int) ∧ (↑p : Int) < (↑(List.length (enR l)) : Int)) ∧ Blk.read Proofs.Try.prog (Blk.mk true (42 : TypeId) 6 true (enR (seE l (Sp.mk i (En.mk v w m n k j)) p))) 42 ((0 : Nat) + Int.toNat (↑p : Int)) 0 = some (AV.agg [AV.w64 (at' l p).1, AV.w64 (at' l p).2, AV.w64 (at' l p).3, AV.w64 (at' l p).4, AV.int IntKind.i64 (at' l p).5, AV.int IntKind.i64 (at' l p).6]) ∧ (alE (En.mk (at' l p).1 (at' l p).2 (at' l p).3 (at' l p).4 (at' l p).5 0) (En.mk v w m n k 0) = true → ((0 : Int) ≤ (↑p : Int) ∧ (↑p : Int) < (↑(List.length (enR l)) : Int)) ∧ Blk.fits (Blk.mk true (42 : TypeId) 6 true (enR (seE l (Sp.mk i (En.mk v w m n k j)) p))) ((0 : Nat) + Int.toNat (↑p : Int)) 0 (AV.agg [AV.w64 v, AV.w64 w, AV.w64 m, AV.w64 n, AV.int IntKind.i64 k, AV.int IntKind.i64 j]) = true ∧ Blk.writes (Blk.mk true (42 : TypeId) 6 true (enR (seE l (Sp.mk i (En.mk v w m n k j)) p))) ((0 : Nat) + Int.toNat (↑p : Int)) 0 (AV.agg [AV.w64 v, AV.w64 w, AV.w64 m, AV.w64 n, AV.int IntKind.i64 k, AV.int IntKind.i64 j]) (enR (seE l (Sp.mk i (En.mk v w m n k j)) (p + (1 : Nat)))) ∧ inRange IntKind.i64 ((↑p : Int) + (1 : Int)) ∧ ∃ (p' : Nat), St.mk [.any, .any, .any, AV.ptr ((0 : Nat) + (1 : Nat)) 0 0 true, .any, AV.vsl ((0 : Nat) + (1 : Nat) + (1 : Nat)) 0 (List.length (enR l)), AV.func (Fn.func (62 : FuncId)) [] [AV.ptr ((0 : Nat) + (1 : Nat)) 0 0 true], .any, .any, .any, .any, .any, .any, .any, .any, .any, .any, .any, .any, .any, .any, .any, .any, AV.vsl ((0 : Nat) + (1 : Nat) + (1 : Nat)) 0 (List.length (enR l)), AV.int IntKind.i64 (↑(List.length (enR l)) : Int), AV.int IntKind.i64 ((↑p : Int) + (1 : Int)), .any, .any, .any, .any, .any, .any, .any, .any, .any, .any, .any, .any, .any, .any, .any, .any, .any, .any, .any] [some (Blk.mk false (42 : TypeId) 6 true (List.map enE l)), some (Blk.mk true (59 : TypeId) 7 true [AV.agg [AV.int IntKind.i64 i, AV.w64 v, AV.w64 w, AV.w64 m, AV.w64 n, AV.int IntKind.i64 k, AV.int IntKind.i64 j]]), some (Blk.mk true (nat_lit 42) 6 true (enR (seE l (Sp.mk i (En.mk v w m n k j)) (p + (1 : Nat)))))] = dtSt l (Sp.mk i (En.mk v w m n k j)) p' ∧ Nat.le p' (List.length l) ∧ List.length l + (1 : Nat) - p' < List.length l + (1 : Nat) - p) ∧ (alE (En.mk (at' l p).1 (at' l p).2 (at' l p).3 (at' l p).4 (at' l p).5 0) (En.mk v w m n k 0) = false → inRange IntKind.i64 ((↑p : Int) + (1 : Int)) ∧ ∃ (p' : Nat), St.mk [.any, .any, .any, AV.ptr ((0 : Nat) + (1 : Nat)) 0 0 true, .any, AV.vsl ((0 : Nat) + (1 : Nat) + (1 : Nat)) 0 (List.length (enR l)), AV.func (Fn.func (62 : FuncId)) [] [AV.ptr ((0 : Nat) + (1 : Nat)) 0 0 true], .any, .any, .any, .any, .any, .any, .any, .any, .any, .any, .any, .any, .any, .any, .any, .any, AV.vsl ((0 : Nat) + (1 : Nat) + (1 : Nat)) 0 (List.length (enR l)), AV.int IntKind.i64 (↑(List.length (enR l)) : Int), AV.int IntKind.i64 ((↑p : Int) + (1 : Int)), .any, .any, .any, .any, .any, .any, .any, .any, .any, .any, .any, .any, .any, .any, .any, .any, .any, .any, .any] [some (Blk.mk false (42 : TypeId) 6 true (List.map enE l)), some (Blk.mk true (59 : TypeId) 7 true [AV.agg [AV.int IntKind.i64 i, AV.w64 v, AV.w64 w, AV.w64 m, AV.w64 n, AV.int IntKind.i64 k, AV.int IntKind.i64 j]]), some (Blk.mk true (42 : TypeId) 6 true (enR (seE l (Sp.mk i (En.mk v w m n k j)) p)))] = dtSt l (Sp.mk i (En.mk v w m n k j)) p' ∧ Nat.le p' (List.length l) ∧ List.length l + (1 : Nat) - p' < List.length l + (1 : Nat) - p)) ∧ (Decidable.decide ((↑p : Int) < (↑(List.length (enR l)) : Int)) = false → List.length (enR l) = List.length es ∧ some (Blk.mk true (42 : TypeId) 6 true (List.take (List.length (enR l)) (enR (seE l (Sp.mk i (En.mk v w m n k j)) p)))) = some (Blk.mk true (42 : TypeId) 6 true es))) ∧ ((i == (1 : Int)) = false → ((i == (2 : Int)) = true → (St.mk [AV.vsl ((0 : Nat) + (1 : Nat) + (1 : Nat)) 0 (List.length (enR l)), AV.func (Fn.func 62) [] [AV.ptr ((0 : Nat) + (1 : Nat)) 0 0 true], .any, .any, .any, .any, AV.vsl ((0 : Nat) + (1 : Nat) + (1 : Nat)) 0 (List.length (enR l)), AV.int IntKind.i64 (↑(List.length (enR l)) : Int), AV.int IntKind.i64 0, .any, .any, .any, .any, .any, .any, .any, .any, .any, .any] [some (Blk.mk false (42 : TypeId) 6 true (List.map enE l)), some (Blk.mk true 59 7 true [AV.agg [AV.int IntKind.i64 i, AV.w64 v, AV.w64 w, AV.w64 m, AV.w64 n, AV.int IntKind.i64 k, AV.int IntKind.i64 j]]), some (Blk.mk true (42 : TypeId) 6 true (enR l))] = diSt l (Sp.mk i (En.mk v w m n k j)) 0 ∧ diI l (Sp.mk i (En.mk v w m n k j)) 0) ∧ ∀ (p : Nat), diI l (Sp.mk i (En.mk v w m n k j)) p → (Decidable.decide ((↑p : Int) < (↑(List.length (enR l)) : Int)) = true → ((0 : Int) ≤ (↑p : Int) ∧ (↑p : Int) < (↑(List.length (enR l)) : Int)) ∧ Blk.read Proofs.Try.prog (Blk.mk true (42 : TypeId) 6 true (enR l)) 42 ((0 : Nat) + Int.toNat (↑p : Int)) 0 = some (AV.agg [AV.w64 (at' l p).1, AV.w64 (at' l p).2, AV.w64 (at' l p).3, AV.w64 (at' l p).4, AV.int IntKind.i64 (at' l p).5, AV.int IntKind.i64 (at' l p).6]) ∧ (alE (En.mk (at' l p).1 (at' l p).2 (at' l p).3 (at' l p).4 (at' l p).5 0) (En.mk v w m n k 0) = true → ((↑p : Int) == (-1 : Int)) = false ∧ inRange IntKind.i64 ((↑p : Int) + (1 : Int)) ∧ (St.mk [AV.vsl ((0 : Nat) + (1 : Nat) + (1 : Nat)) 0 (List.length (enR l)), AV.func (Fn.func 62) [] [AV.ptr ((0 : Nat) + (1 : Nat)) 0 0 true], .any, .any, .any, AV.int IntKind.i64 (↑p : Int), AV.int IntKind.i64 ((↑p : Int) + (1 : Int)), .any, .any, .any, .any, .any, .any, .any, .any, .any, .any, .any, .any, .any, .any, .any, .any, .any, .any, .any, .any, .any, .any, .any, .any, .any, .any, .any, .any, .any, .any, .any, .any, .any, .any, .any] [some (Blk.mk false (42 : TypeId) 6 true (List.map enE l)), some (Blk.mk true (59 : TypeId) 7 true [AV.agg [AV.int IntKind.i64 i, AV.w64 v, AV.w64 w, AV.w64 m, AV.w64 n, AV.int IntKind.i64 k, AV.int IntKind.i64 j]]), some (Blk.mk true (42 : TypeId) 6 true (enR l))] = dlSt l (Sp.mk i (En.mk v w m n k j)) (p + (1 : Nat)) ∧ Nat.le (p + (1 : Nat)) (List.length l)) ∧ ∀ (p : Nat), Nat.le p (List.length l) → (Decidable.decide ((↑p : Int) < (↑(List.length (enR l)) : Int)) = true → ((0 : Int) ≤ (↑p : Int) ∧ (↑p : Int) < (↑(List.length (enR l)) : Int)) ∧ Blk.read Proofs.Try.prog (Blk.mk true (42 : TypeId) 6 true (enR (dkE l (Sp.mk i (En.mk v w m n k j)) p))) 42 ((0 : Nat) + Int.toNat (↑p : Int)) 0 = some (AV.agg [AV.w64 (at' l p).1, AV.w64 (at' l p).2, AV.w64 (at' l p).3, AV.w64 (at' l p).4, AV.int IntKind.i64 (at' l p).5, AV.int IntKind.i64 (at' l p).6]) ∧ ((!alE (En.mk (at' l p).1 (at' l p).2 (at' l p).3 (at' l p).4 (at' l p).5 0) (En.mk v w m n k 0)) = true → ((0 : Int) ≤ (↑(List.length (keE l (Sp.mk i (En.mk v w m n k j)) p)) : Int) ∧ (↑(List.length (keE l (Sp.mk i (En.mk v w m n k j)) p)) : Int) < (↑(List.length (enR l)) : Int)) ∧ Blk.fits (Blk.mk true (42 : TypeId) 6 true (enR (dkE l (Sp.mk i (En.mk v w m n k j)) p))) ((0 : Nat) + Int.toNat (↑(List.length (keE l (Sp.mk i (En.mk v w m n k j)) p)) : Int)) 0 (AV.agg [AV.w64 (at' l p).1, AV.w64 (at' l p).2, AV.w64 (at' l p).3, AV.w64 (at' l p).4, AV.int IntKind.i64 (at' l p).5, AV.int IntKind.i64 (at' l p).6]) = true ∧ Blk.writes (Blk.mk true (42 : TypeId) 6 true (enR (dkE l (Sp.mk i (En.mk v w m n k j)) p))) ((0 : Nat) + Int.toNat (↑(List.length (keE l (Sp.mk i (En.mk v w m n k j)) p)) : Int)) 0 (AV.agg [AV.w64 (at' l p).1, AV.w64 (at' l p).2, AV.w64 (at' l p).3, AV.w64 (at' l p).4, AV.int IntKind.i64 (at' l p).5, AV.int IntKind.i64 (at' l p).6]) (enR (dkE l (Sp.mk i (En.mk v w m n k j)) (p + (1 : Nat)))) ∧ inRange IntKind.i64 ((↑(List.length (keE l (Sp.mk i (En.mk v w m n k j)) p)) : Int) + (1 : Int)) ∧ inRange IntKind.i64 ((↑p : Int) + (1 : Int)) ∧ ∃ (p' : Nat), St.mk [AV.vsl ((0 : Nat) + (1 : Nat) + (1 : Nat)) 0 (List.length (enR l)), AV.func (Fn.func (62 : FuncId)) [] [AV.ptr ((0 : Nat) + (1 : Nat)) 0 0 true], .any, .any, .any, AV.int IntKind.i64 ((↑(List.length (keE l (Sp.mk i (En.mk v w m n k j)) p)) : Int) + (1 : Int)), AV.int IntKind.i64 ((↑p : Int) + (1 : Int)), .any, .any, .any, .any, .any, .any, .any, .any, .any, .any, .any, .any, .any, .any, .any, .any, .any, .any, .any, .any, .any, .any, .any, .any, .any, .any, .any, .any, .any, .any, .any, .any, .any, .any, .any] [some (Blk.mk false (42 : TypeId) 6 true (List.map enE l)), some (Blk.mk true (59 : TypeId) 7 true [AV.agg [AV.int IntKind.i64 i, AV.w64 v, AV.w64 w, AV.w64 m, AV.w64 n, AV.int IntKind.i64 k, AV.int IntKind.i64 j]]), some (Blk.mk true (nat_lit 42) 6 true (enR (dkE l (Sp.mk i (En.mk v w m n k j)) (p + (1 : Nat)))))] = dlSt l (Sp.mk i (En.mk v w m n k j)) p' ∧ Nat.le p' (List.length l) ∧ List.length l + (1 : Nat) - p' < List.length l + (1 : Nat) - p) ∧ ((!alE (En.mk (at' l p).1 (at' l p).2 (at' l p).3 (at' l p).4 (at' l p).5 0) (En.mk v w m n k 0)) = false → inRange IntKind.i64 ((↑p : Int) + (1 : Int)) ∧ ∃ (p' : Nat), St.mk [AV.vsl ((0 : Nat) + (1 : Nat) + (1 : Nat)) 0 (List.length (enR l)), AV.func (Fn.func (62 : FuncId)) [] [AV.ptr ((0 : Nat) + (1 : Nat)) 0 0 true], .any, .any, .any, AV.int IntKind.i64 (↑(List.length (keE l (Sp.mk i (En.mk v w m n k j)) p)) : Int), AV.int IntKind.i64 ((↑p : Int) + (1 : Int)), .any, .any, .any, .any, .any, .any, .any, .any, .any, .any, .any, .any, .any, .any, .any, .any, .any, .any, .any, .any, .any, .any, .any, .any, .any, .any, .any, .any, .any, .any, .any, .any, .any, .any, .any] [some (Blk.mk false (42 : TypeId) 6 true (List.map enE l)), some (Blk.mk true (59 : TypeId) 7 true [AV.agg [AV.int IntKind.i64 i, AV.w64 v, AV.w64 w, AV.w64 m, AV.w64 n, AV.int IntKind.i64 k, AV.int IntKind.i64 j]]), some (Blk.mk true (42 : TypeId) 6 true (enR (dkE l (Sp.mk i (En.mk v w m n k j)) p)))] = dlSt l (Sp.mk i (En.mk v w m n k j)) p' ∧ Nat.le p' (List.length l) ∧ List.length l + (1 : Nat) - p' < List.length l + (1 : Nat) - p)) ∧ (Decidable.decide ((↑p : Int) < (↑(List.length (enR l)) : Int)) = false → ((0 : Int) ≤ (↑(List.length (keE l (Sp.mk i (En.mk v w m n k j)) p)) : Int) ∧ (↑(List.length (keE l (Sp.mk i (En.mk v w m n k j)) p)) : Int) < (↑(List.length (enR l) + (1 : Nat)) : Int)) ∧ ((0 : Nat) + Int.toNat (↑(List.length (keE l (Sp.mk i (En.mk v w m n k j)) p)) : Int) + (List.length (enR l) - Int.toNat (↑(List.length (keE l (Sp.mk i (En.mk v w m n k j)) p)) : Int)) ≤ List.length (List.map enE (dkE l (Sp.mk i (En.mk v w m n k j)) p)) ∧ List.take ((0 : Nat) + Int.toNat (↑(List.length (keE l (Sp.mk i (En.mk v w m n k j)) p)) : Int)) (List.map enE (dkE l (Sp.mk i (En.mk v w m n k j)) p)) ++ List.replicate (List.length (enR l) - Int.toNat (↑(List.length (keE l (Sp.mk i (En.mk v w m n k j)) p)) : Int)) (AV.agg [AV.w64 (BitVec.ofInt 64 0), AV.w64 (BitVec.ofInt 64 0), AV.w64 (BitVec.ofInt 64 0), AV.w64 (BitVec.ofInt 64 0), AV.int IntKind.i64 0, AV.int IntKind.i64 0]) ++ List.drop ((0 : Nat) + Int.toNat (↑(List.length (keE l (Sp.mk i (En.mk v w m n k j)) p)) : Int) + (List.length (enR l) - Int.toNat (↑(List.length (keE l (Sp.mk i (En.mk v w m n k j)) p)) : Int))) (List.map enE (dkE l (Sp.mk i (En.mk v w m n k j)) p)) = enR (keE l (Sp.mk i (En.mk v w m n k j)) (List.length l) ++ List.replicate (List.length l - List.length (keE l (Sp.mk i (En.mk v w m n k j)) (List.length l))) zeE)) ∧ ((0 : Int) ≤ (↑(List.length (keE l (Sp.mk i (En.mk v w m n k j)) p)) : Int) ∧ (↑(List.length (keE l (Sp.mk i (En.mk v w m n k j)) p)) : Int) < (↑(List.length (enR l) + (1 : Nat)) : Int)) ∧ Int.toNat (↑(List.length (keE l (Sp.mk i (En.mk v w m n k j)) p)) : Int) - (0 : Nat) = List.length es ∧ some (Blk.mk true (nat_lit 42) 6 true (List.take (Int.toNat (↑(List.length (keE l (Sp.mk i (En.mk v w m n k j)) p)) : Int) - (0 : Nat)) (enR (keE l (Sp.mk i (En.mk v w m n k j)) (List.length l) ++ List.replicate (List.length l - List.length (keE l (Sp.mk i (En.mk v w m n k j)) (List.length l))) zeE)))) = some (Blk.mk true (42 : TypeId) 6 true es))) ∧ (alE (En.mk (at' l p).1 (at' l p).2 (at' l p).3 (at' l p).4 (at' l p).5 0) (En.mk v w m n k 0) = false → inRange IntKind.i64 ((↑p : Int) + (1 : Int)) ∧ ∃ (p' : Nat), St.mk [AV.vsl ((0 : Nat) + (1 : Nat) + (1 : Nat)) 0 (List.length (enR l)), AV.func (Fn.func (62 : FuncId)) [] [AV.ptr ((0 : Nat) + (1 : Nat)) 0 0 true], .any, .any, .any, .any, AV.vsl ((0 : Nat) + (1 : Nat) + (1 : Nat)) 0 (List.length (enR l)), AV.int IntKind.i64 (↑(List.length (enR l)) : Int), AV.int IntKind.i64 ((↑p : Int) + (1 : Int)), .any, .any, .any, .any, .any, .any, .any, .any, .any, .any] [some (Blk.mk false (42 : TypeId) 6 true (List.map enE l)), some (Blk.mk true (59 : TypeId) 7 true [AV.agg [AV.int IntKind.i64 i, AV.w64 v, AV.w64 w, AV.w64 m, AV.w64 n, AV.int IntKind.i64 k, AV.int IntKind.i64 j]]), some (Blk.mk true (42 : TypeId) 6 true (enR l))] = diSt l (Sp.mk i (En.mk v w m n k j)) p' ∧ diI l (Sp.mk i (En.mk v w m n k j)) p' ∧ List.length l + (1 : Nat) - p' < List.length l + (1 : Nat) - p)) ∧ (Decidable.decide ((↑p : Int) < (↑(List.length (enR l)) : Int)) = false → List.length (enR l) = List.length es ∧ some (Blk.mk true (42 : TypeId) 6 true (List.take (List.length (enR l)) (enR l))) = some (Blk.mk true (42 : TypeId) 6 true es))) ∧ ((i == (2 : Int)) = false → List.length (enR l) = List.length es ∧ some (Blk.mk true (42 : TypeId) 6 true (List.take (List.length (enR l)) (enR l))) = some (Blk.mk true (42 : TypeId) 6 true es))))) := by kernel_rfl

theorem en_put {L : List En} {q : Nat} (h : q < L.length) (y : En) : (Blk.mk true 42 6 true (enR L)).fits (0 + (q : Int).toNat) 0 (enE y) = true ∧ (Blk.mk true 42 6 true (enR L)).writes (0 + (q : Int).toNat) 0 (enE y) (enR (L.set q y)) := by
  have e : (enR L)[0 + (q : Int).toNat]? = some (enE (at' L q)) := by
    unfold enR
    rw [Nat.zero_add, Int.toNat_natCast, List.getElem?_map, at_get h]; rfl
  constructor
  · unfold Blk.fits
    dsimp only
    rw [e]; rfl
  · unfold Blk.writes Blk.write
    dsimp only
    rw [e]
    show (enR L).set (0 + (q : Int).toNat) (enE y) = _
    unfold enR
    rw [Nat.zero_add, Int.toNat_natCast, List.map_set]

theorem gdo11_law (l : List En) (s : Sp) (hl : l.length ≤ 1000000) : ∃ hs, preC (run gdo11Cs Try.prog) 31 [.vsl 0 0 (l.map enE).length, spE s] [some ⟨false, 42, 6, true, l.map enE⟩] hs (yields (.vrow 42 6 ((doE l s).map enE))) := by
  obtain ⟨i, v, w, m, n, k, j⟩ := s
  refine ⟨doHs l ⟨i, v, w, m, n, k, j⟩, ?_⟩
  show preC (run gdo11Cs Try.prog) _ [.vsl 0 0 (l.map enE).length, .agg [.int .i64 i, .w64 v, .w64 w, .w64 m, .w64 n, .int .i64 k, .int .i64 j]] _ (doHs l ⟨i, v, w, m, n, k, j⟩) _
  rw [gdo11_run]
  generalize hs : (⟨i, v, w, m, n, k, j⟩ : Sp) = s
  have hi : s.k = i := by rw [← hs]
  have he : s.e = ⟨v, w, m, n, k, j⟩ := by rw [← hs]
  have lR : ∀ L, (enR L).length = L.length := fun L => List.length_map _
  have al : ∀ p, alE ⟨(at' l p).v, (at' l p).w, (at' l p).m, (at' l p).n, (at' l p).len, 0⟩ ⟨v, w, m, n, k, 0⟩ = alE (at' l p) s.e := fun p => by rw [he]; rfl
  have ye : (AV.agg [.w64 v, .w64 w, .w64 m, .w64 n, .int .i64 k, .int .i64 j]) = enE s.e := by rw [he]; rfl
  have dp := doE_dp l s
  have rd : ∀ (b : List En) (p : Nat), p < b.length → at' b p = at' l p → (Blk.mk true 42 6 true (enR b)).read Try.prog 42 (0 + Int.toNat p) 0 = some (enE (at' l p)) := fun b p h1 h2 => by
    rw [← h2]
    exact read_rows (by omega) (by rw [List.length_map]; omega) (en_whole _)
  simp only [whole_row, deE_map, zLe, true_and, eq_self, al, ye]
  refine ⟨hl, ⟨rfl, by rw [lR, List.length_map]⟩, fun h0 => ?_, fun h0 => ⟨fun h1 => ?_, fun h1 => ⟨fun h2 => ?_, fun h2 => ?_⟩⟩⟩
  · have h0 : i = 0 := by simpa using h0
    rw [hi, if_pos h0] at dp
    have hd : dpE l s = l := by unfold dpE; rw [hi, if_neg (by omega), if_neg (by omega)]
    rw [hd] at dp
    rw [dp]
    refine ⟨⟨by rw [lR]; omega, by rw [lR]; omega, Nat.le_refl _, by rw [lR, List.length_map]; exact Nat.le_refl _⟩, ?_, by rw [lR, List.length_map, List.length_append]; rfl, ?_⟩
    · rw [List.take_of_length_le (by rw [lR, List.length_map]; exact Nat.le_refl _)]
      show _ = List.map enE _
      rw [List.map_append]; rfl
    · rw [List.take_of_length_le (by rw [lR, lR, List.length_append]; exact Nat.le_refl _)]; rfl
  · have h1 : i = 1 := by simpa using h1
    rw [hi, if_neg (by omega)] at dp
    have hd : dpE l s = seE l s l.length := by
      unfold dpE seE
      rw [hi, if_pos h1, List.take_length, List.drop_length, List.append_nil]
    rw [dp, hd]
    refine ⟨⟨by rw [← hs]; rfl, Nat.zero_le _⟩, ?_⟩
    intro p (hp0 : p ≤ l.length)
    have i1 : inRange .i64 ((p : Int) + 1) := inR (by omega) (by omega)
    refine ⟨fun hlt => ?_, fun hge => ?_⟩
    · have hp : p < l.length := by have := of_decide_eq_true hlt; rw [lR] at this; omega
      have B : 0 ≤ (p : Int) ∧ (p : Int) < ((enR l).length : Int) := by rw [lR]; omega
      have hn := seE_next hp s
      have hsl := seE_len l s p
      have ha : at' (seE l s p) p = at' l p := by
        have e : (seE l s p)[p]? = some (at' l p) := by
          rw [seE_at hp, List.getElem?_append_right (by rw [List.length_map, List.length_take]; omega), List.length_map, List.length_take, Nat.min_eq_left (by omega), Nat.sub_self]; rfl
        rw [at_get (by omega)] at e
        exact Option.some.inj e
      refine ⟨B, rd _ _ (by omega) ha, fun h => ?_, fun h => ?_⟩
      · rw [if_pos h] at hn
        have hw := en_put (L := seE l s p) (q := p) (by omega) s.e
        rw [← hn] at hw
        exact ⟨B, hw.1, hw.2, i1, p + 1, by rw [← hs]; rfl, hp, by omega⟩
      · rw [if_neg (by rw [h]; simp)] at hn
        have e : seE l s (p + 1) = seE l s p := by
          rw [hn, ← ha]
          refine List.ext_getElem? fun q => ?_
          rw [List.getElem?_set]
          split
          · rename_i e; subst e
            rw [if_pos (by omega), at_get (by omega)]
          · rfl
        exact ⟨i1, p + 1, by unfold dtSt; rw [e, ← hs]; rfl, hp, by omega⟩
    · have hp : p = l.length := by have := of_decide_eq_false hge; rw [lR] at this; omega
      subst hp
      exact ⟨by rw [lR, List.length_map, seE_len], by rw [List.take_of_length_le (by rw [lR, lR, seE_len]; exact Nat.le_refl _)]; rfl⟩
  · have h2 : i = 2 := by simpa using h2
    rw [hi, if_neg (by omega)] at dp
    have hd : dpE l s = keE l s l.length := by
      unfold dpE keE
      rw [hi, if_neg (by omega), if_pos h2, List.take_length]
    rw [dp, hd]
    refine ⟨⟨by rw [← hs]; rfl, Nat.zero_le _, fun j hj => absurd hj (Nat.not_lt_zero _)⟩, ?_⟩
    rintro p ⟨hp0, hno⟩
    have i1 : inRange .i64 ((p : Int) + 1) := inR (by omega) (by omega)
    refine ⟨fun hlt => ?_, fun hge => ?_⟩
    · have hp : p < l.length := by have := of_decide_eq_true hlt; rw [lR] at this; omega
      have B : 0 ≤ (p : Int) ∧ (p : Int) < ((enR l).length : Int) := by rw [lR]; omega
      refine ⟨B, rd _ _ hp rfl, fun ha => ?_, fun ha => ⟨i1, p + 1, by rw [← hs]; rfl, ⟨hp, up hno ha⟩, by omega⟩⟩
      have k0 : keE l s p = l.take p := by
        unfold keE
        refine List.filter_eq_self.2 fun x hx => ?_
        obtain ⟨q, hq, rfl⟩ := mem_at hx
        rw [List.length_take] at hq
        have e : at' (l.take p) q = at' l q := by unfold at'; rw [List.getD_eq_getElem?_getD, List.getD_eq_getElem?_getD, List.getElem?_take, if_pos (by omega)]
        rw [e, hno q (by omega)]; rfl
      have k1 : keE l s (p + 1) = l.take p := by rw [keE_next hp, ha, if_pos rfl, List.append_nil, k0]
      have kl : (keE l s (p + 1)).length = p := by rw [k1, List.length_take]; omega
      have d1 : dkE l s (p + 1) = l := by unfold dkE; rw [kl, k1, List.take_append_drop]
      refine ⟨by simp, i1, ⟨by unfold dlSt; rw [kl, d1, ← hs]; rfl, hp⟩, ?_⟩
      intro q (hq0 : q ≤ l.length)
      have i2 : inRange .i64 ((q : Int) + 1) := inR (by omega) (by omega)
      have hkq := keE_le l s q
      have hdl := dkE_len l s q
      refine ⟨fun hlt => ?_, fun hge => ?_⟩
      · have hq : q < l.length := by have := of_decide_eq_true hlt; rw [lR] at this; omega
        have B : 0 ≤ (q : Int) ∧ (q : Int) < ((enR l).length : Int) := by rw [lR]; omega
        have hk := keE_next hq s
        have hd := dkE_next hq s
        refine ⟨B, rd _ _ (by omega) (dkE_at hq s), fun h => ?_, fun h => ?_⟩
        · have h := notTT h
          rw [if_neg (by rw [h]; simp)] at hk hd
          have hw := en_put (L := dkE l s q) (q := (keE l s q).length) (by omega) (at' l q)
          rw [← hd] at hw
          have kl : (keE l s (q + 1)).length = (keE l s q).length + 1 := by rw [hk, List.length_append]; rfl
          exact ⟨⟨by omega, by rw [lR]; omega⟩, hw.1, hw.2, inR (by omega) (by omega), i2, q + 1, by unfold dlSt; rw [kl, ← hs]; rfl, hq, by omega⟩
        · have h := notF h
          rw [if_pos h] at hd
          rw [if_pos h, List.append_nil] at hk
          exact ⟨i2, q + 1, by unfold dlSt; rw [hk, hd, ← hs]; rfl, hq, by omega⟩
      · have hq : q = l.length := by have := of_decide_eq_false hge; rw [lR] at this; omega
        subst hq
        have B : 0 ≤ ((keE l s l.length).length : Int) ∧ ((keE l s l.length).length : Int) < (((enR l).length + 1 : Nat) : Int) := by rw [lR]; omega
        have hdm : (List.map enE (dkE l s l.length)).length = l.length := by rw [List.length_map, hdl]
        simp only [Int.toNat_natCast, Nat.zero_add, Nat.sub_zero, lR]
        rw [lR] at B
        refine ⟨B, ⟨by omega, ?_⟩, B, by rw [List.length_map], ?_⟩
        · rw [List.drop_eq_nil_of_le (by omega), List.append_nil]
          show _ = List.map enE _
          rw [List.map_append, List.map_replicate]
          congr 1
          unfold dkE
          rw [List.map_append, List.take_left' (List.length_map _)]
        · unfold enR
          rw [List.map_append, List.take_left' (List.length_map _)]
    · exact ⟨by
        have hp : p = l.length := by have := of_decide_eq_false hge; rw [lR] at this; omega
        subst hp
        have : keE l s l.length = l := by
          unfold keE
          rw [List.take_length]
          refine List.filter_eq_self.2 fun x hx => ?_
          obtain ⟨q, hq, rfl⟩ := mem_at hx
          rw [hno q hq]; rfl
        rw [this, lR, List.length_map], by
        have hp : p = l.length := by have := of_decide_eq_false hge; rw [lR] at this; omega
        subst hp
        have : keE l s l.length = l := by
          unfold keE
          rw [List.take_length]
          refine List.filter_eq_self.2 fun x hx => ?_
          obtain ⟨q, hq, rfl⟩ := mem_at hx
          rw [hno q hq]; rfl
        rw [this, List.take_length]; rfl⟩
  · have h0 : i ≠ 0 := by simpa using h0
    have h1 : i ≠ 1 := by simpa using h1
    have h2 : i ≠ 2 := by simpa using h2
    rw [hi, if_neg h0] at dp
    have hd : dpE l s = l := by unfold dpE; rw [hi, if_neg h1, if_neg h2]
    rw [dp, hd, lR, List.length_map]
    exact ⟨rfl, by rw [List.take_of_length_le (by rw [lR]; exact Nat.le_refl _)]; rfl⟩

set_option maxRecDepth 1000000 in
theorem gdo11_ok : SpecOK Try.prog 31 (genSpec [pEn, none] gdo11F) := by
  refine genSpec_ok (preC_ok (run_ok (l := gdo11Cs) gdo11Cs_ok mixed noNG)) fun l R hF => ?_
  unfold gdo11F at hF
  split at hF
  · rename_i r_l i v w m n k j
    obtain ⟨hr_l, hl, hF⟩ := hF
    generalize deE r_l = l at hr_l hl hF
    subst hr_l
    obtain ⟨hs, r⟩ := gdo11_law l ⟨i, v, w, m, n, k, j⟩ hl
    exact ⟨_, hF, trivial, hs, r⟩
  · exact hF.elim

end Go.Proofs.Ytnjbgbdcbejciaa.L1
end

section
/-
  Layer 11: the law's told: what is told at each step from one row to another.
-/
namespace Go.Proofs.Ytnjbgbdcbejciaa.L1
open Go.Sx Go.Sx.M

/-- A row behind the first p steps to another. -/
def tdE (l m : List En) (p : Nat) : List En := lpE l (stE l m) p

def tdR (l m : List En) (a b : BitVec 64) : List (Option Blk) := [some ⟨false, 42, 6, true, l.map enE⟩, some ⟨false, 42, 6, true, m.map enE⟩, some ⟨true, 25, 2, true, [.agg [.w64 a, .w64 b]]⟩]
def tdT (l m : List En) (a b : BitVec 64) : St :=
  ⟨[.vsl 0 0 (l.map enE).length, .vsl 1 0 (m.map enE).length, .any, .any, .any, .ptr 2 0 0 true, .any, .int .i64 (tlI l a b), .int .i64 (tlI m a b), .any, .any, .any, .any, .any, .any, .any, .any, .any, .any, .any, .any, .any, .any, .any, .any, .any, .any, .any, .any, .any, .any, .any, .any, .any, .any, .any, .any, .any, .any, .any, .any, .any, .any, .any, .any, .any, .any, .any, .any, .any, .any, .any], tdR l m a b⟩
def tdS (l m : List En) (a b : BitVec 64) : St :=
  ⟨[.any, .any, .any, .any, .any, .ptr 2 0 0 true, .any, .int .i64 (tlI l a b), .int .i64 (tlI m a b), .vsl 0 0 (l.map enE).length, .any, .any, .any, .any, .any, .any, .any, .any, .any, .any, .any, .any, .any, .any, .vsl 3 0 ((stE l m).map spE).length, .int .i64 ((stE l m).map spE).length, .int .i64 0, .any, .any, .any, .any, .any, .any, .any, .any, .any, .any, .any, .any, .any, .any, .any, .any, .any, .any, .any, .any, .any, .any, .any, .any, .any], tdR l m a b ++ [some ⟨true, 59, 7, true, (stE l m).map spE⟩]⟩
def tdS2 (l m : List En) (a b : BitVec 64) (p : Nat) : St :=
  ⟨[.any, .any, .any, .any, .any, .ptr 2 0 0 true, .any, .int .i64 (tlI l a b), .int .i64 (tlI m a b), .vsl 3 0 ((tdE l m p).map enE).length, .any, .any, .any, .any, .any, .any, .any, .any, .any, .any, .any, .any, .any, .any, .vsl 4 0 ((stE l m).map spE).length, .int .i64 ((stE l m).map spE).length, .int .i64 p, .any, .any, .any, .any, .any, .any, .any, .any, .any, .any, .any, .any, .any, .any, .any, .any, .any, .any, .any, .any, .any, .any, .any, .any, .any], tdR l m a b ++ [some ⟨true, 42, 6, true, (tdE l m p).map enE⟩, some ⟨true, 59, 7, true, (stE l m).map spE⟩]⟩
def tdK : Modes := ⟨[1, 1, 0, 0, 0, 1, 0, 1, 1, 0, 0, 0, 0, 0, 0, 0, 0, 0, 0, 0, 0, 0, 0, 0, 0, 0, 0, 0, 0, 0, 0, 0, 0, 0, 0, 0, 0, 0, 0, 0, 0, 0, 0, 0, 0, 0, 0, 0, 0, 0, 0, 0], [], [], [], []⟩
def tdM0 : Modes := ⟨[0, 0, 0, 0, 0, 1, 0, 1, 1, 1, 0, 0, 0, 0, 0, 0, 0, 0, 0, 0, 0, 0, 0, 0, 1, 1, 2, 0, 0, 0, 0, 0, 0, 0, 0, 0, 0, 0, 0, 0, 0, 0, 0, 0, 0, 0, 0, 0, 0, 0, 0, 0], [], [], [], []⟩
def tdM : Modes := ⟨[0, 0, 0, 0, 0, 1, 0, 1, 1, 1, 0, 0, 0, 0, 0, 0, 0, 0, 0, 0, 0, 0, 0, 0, 1, 1, 1, 0, 0, 0, 0, 0, 0, 0, 0, 0, 0, 0, 0, 0, 0, 0, 0, 0, 0, 0, 0, 0, 0, 0, 0, 0], [], [], [], []⟩
def tdM' : Modes := ⟨[0, 0, 0, 0, 0, 1, 0, 0, 1, 1, 0, 0, 0, 0, 0, 0, 0, 0, 0, 0, 0, 0, 0, 0, 0, 0, 0, 0, 0, 0, 0, 0, 0, 0, 0, 0, 0, 0, 0, 0, 0, 0, 0, 0, 0, 0, 0, 0, 0, 0, 0, 0], [], [], [], []⟩
def tdI (l m : List En) (p : Nat) : List Hint := [.fork [.dy, .cell (spE (at' (stE l m) p)), .nm ((tdE l m (p + 1)).map enE), .nm ((tdE l m (p + 1)).map enE), .fork [.br false, .nw] [.nw]] []]
def tdH (l m : List En) (a b : BitVec 64) : List Hint := [.mrg true Unit (fun _ => tdT l m a b) (fun _ => True) tdK [] (fun _ => []), .nm ((stE l m).map spE),
  .linw Unit Nat () (fun _ => tdS l m a b) (tdS2 l m a b) (fun _ => True) (fun p => p ≤ (stE l m).length) (fun _ => (stE l m).length + 1) (fun p => (stE l m).length + 1 - p) tdM0 tdM tdM'
    (fun _ => [.nm (l.map enE)]) (fun p => [.nm ((tdE l m p).map enE)]) (fun _ => tdI l m 0) (tdI l m)]

noncomputable def told11Cs : List (FuncId × Sx.Spec) := [(17, genSpec [pEn] of5F), (69, genSpec [pRefE, none] rtellF), (24, genSpec [pEn, pEn] gsteps11F), (31, genSpec [pEn, none] gdo11F)]

theorem told11_run (l m : List En) (a b : BitVec 64) (r : AV) : run told11Cs Try.prog 35 [.vsl 0 0 (l.map enE).length, .vsl 1 0 (m.map enE).length, .agg [.w64 a, .w64 b]] [some ⟨false, 42, 6, true, l.map enE⟩, some ⟨false, 42, 6, true, m.map enE⟩] (tdH l m a b) (yields (.v r)) =
    (((0 : Nat) + List.length (List.map enE l) ≤ List.length (List.map enE l) ∧ List.take (List.length (List.map enE l)) (List.drop 0 (List.map enE l)) = List.map enE (deE (List.take (List.length (List.map enE l)) (List.drop 0 (List.map enE l)))) ∧ List.length (deE (List.take (List.length (List.map enE l)) (List.drop 0 (List.map enE l)))) ≤ (1000000 : Nat) ∧ (0 : Nat) + List.length (List.map enE (deE (List.take (List.length (List.map enE l)) (List.drop 0 (List.map enE l))))) ≤ List.length (List.map enE (deE (List.take (List.length (List.map enE l)) (List.drop 0 (List.map enE l))))) ∧ List.take (List.length (List.map enE (deE (List.take (List.length (List.map enE l)) (List.drop 0 (List.map enE l)))))) (List.drop 0 (List.map enE (deE (List.take (List.length (List.map enE l)) (List.drop 0 (List.map enE l)))))) = List.map enE (deE (List.take (List.length (List.map enE (deE (List.take (List.length (List.map enE l)) (List.drop 0 (List.map enE l)))))) (List.drop 0 (List.map enE (deE (List.take (List.length (List.map enE l)) (List.drop 0 (List.map enE l)))))))) ∧ List.length (deE (List.take (List.length (List.map enE (deE (List.take (List.length (List.map enE l)) (List.drop 0 (List.map enE l)))))) (List.drop 0 (List.map enE (deE (List.take (List.length (List.map enE l)) (List.drop 0 (List.map enE l)))))))) ≤ (9223372036854775807 : Nat) ∧ (0 : Nat) + List.length (List.map enE m) ≤ List.length (List.map enE m) ∧ List.take (List.length (List.map enE m)) (List.drop 0 (List.map enE m)) = List.map enE (deE (List.take (List.length (List.map enE m)) (List.drop 0 (List.map enE m)))) ∧ List.length (deE (List.take (List.length (List.map enE m)) (List.drop 0 (List.map enE m)))) ≤ (1000000 : Nat) ∧ (0 : Nat) + List.length (List.map enE (deE (List.take (List.length (List.map enE m)) (List.drop 0 (List.map enE m))))) ≤ List.length (List.map enE (deE (List.take (List.length (List.map enE m)) (List.drop 0 (List.map enE m))))) ∧ List.take (List.length (List.map enE (deE (List.take (List.length (List.map enE m)) (List.drop 0 (List.map enE m)))))) (List.drop 0 (List.map enE (deE (List.take (List.length (List.map enE m)) (List.drop 0 (List.map enE m)))))) = List.map enE (deE (List.take (List.length (List.map enE (deE (List.take (List.length (List.map enE m)) (List.drop 0 (List.map enE m)))))) (List.drop 0 (List.map enE (deE (List.take (List.length (List.map enE m)) (List.drop 0 (List.map enE m)))))))) ∧ List.length (deE (List.take (List.length (List.map enE (deE (List.take (List.length (List.map enE m)) (List.drop 0 (List.map enE m)))))) (List.drop 0 (List.map enE (deE (List.take (List.length (List.map enE m)) (List.drop 0 (List.map enE m)))))))) ≤ (9223372036854775807 : Nat) ∧ ∃ (_ : Unit), St.mk [AV.vsl 0 0 (List.length (List.map enE l)), AV.vsl ((0 : Nat) + (1 : Nat)) 0 (List.length (List.map enE m)), .any, .any, .any, AV.ptr ((0 : Nat) + (1 : Nat) + (1 : Nat)) 0 0 true, .any, AV.int IntKind.i64 (tlI (deE (List.take (List.length (List.map enE (deE (List.take (List.length (List.map enE l)) (List.drop 0 (List.map enE l)))))) (List.drop 0 (List.map enE (deE (List.take (List.length (List.map enE l)) (List.drop 0 (List.map enE l)))))))) a b), AV.int IntKind.i64 (tlI (deE (List.take (List.length (List.map enE (deE (List.take (List.length (List.map enE m)) (List.drop 0 (List.map enE m)))))) (List.drop 0 (List.map enE (deE (List.take (List.length (List.map enE m)) (List.drop 0 (List.map enE m)))))))) a b), .any, .any, .any, .any, .any, .any, .any, .any, .any, .any, .any, .any, .any, .any, .any, .any, .any, .any, .any, .any, .any, .any, .any, .any, .any, .any, .any, .any, .any, .any, .any, .any, .any, .any, .any, .any, .any, .any, .any, .any, .any, .any, .any] [some (Blk.mk false (42 : TypeId) 6 true (List.map enE l)), some (Blk.mk false (42 : TypeId) 6 true (List.map enE m)), some (Blk.mk true 25 2 true [AV.agg [AV.w64 a, AV.w64 b]])] = St.mk [AV.vsl 0 0 (List.length (List.map enE l)), AV.vsl 1 0 (List.length (List.map enE m)), .any, .any, .any, AV.ptr 2 0 0 true, .any, AV.int IntKind.i64 (tlI l a b), AV.int IntKind.i64 (tlI m a b), .any, .any, .any, .any, .any, .any, .any, .any, .any, .any, .any, .any, .any, .any, .any, .any, .any, .any, .any, .any, .any, .any, .any, .any, .any, .any, .any, .any, .any, .any, .any, .any, .any, .any, .any, .any, .any, .any, .any, .any, .any, .any, .any] [some (Blk.mk false (42 : TypeId) 6 true (List.map enE l)), some (Blk.mk false (42 : TypeId) 6 true (List.map enE m)), some (Blk.mk true (25 : TypeId) 2 true [AV.agg [AV.w64 a, AV.w64 b]])] ∧ True) ∧ ∀ (_ : Unit), True → (0 : Nat) + List.length (List.map enE l) ≤ List.length (List.map enE l) ∧ (0 : Nat) + List.length (List.map enE m) ≤ List.length (List.map enE m) ∧ List.take (List.length (List.map enE l)) (List.drop 0 (List.map enE l)) = List.map enE (deE (List.take (List.length (List.map enE l)) (List.drop 0 (List.map enE l)))) ∧ List.length (deE (List.take (List.length (List.map enE l)) (List.drop 0 (List.map enE l)))) ≤ (1000000 : Nat) ∧ List.take (List.length (List.map enE m)) (List.drop 0 (List.map enE m)) = List.map enE (deE (List.take (List.length (List.map enE m)) (List.drop 0 (List.map enE m)))) ∧ List.length (deE (List.take (List.length (List.map enE m)) (List.drop 0 (List.map enE m)))) ≤ (1000000 : Nat) ∧ (List.map spE (stE (deE (List.take (List.length (List.map enE l)) (List.drop 0 (List.map enE l)))) (deE (List.take (List.length (List.map enE m)) (List.drop 0 (List.map enE m))))) = List.map spE (stE l m) ∧ List.length (List.map spE (stE (deE (List.take (List.length (List.map enE l)) (List.drop 0 (List.map enE l)))) (deE (List.take (List.length (List.map enE m)) (List.drop 0 (List.map enE m)))))) = List.length (List.map spE (stE l m))) ∧ (St.mk [.any, .any, .any, .any, .any, AV.ptr ((0 : Nat) + (1 : Nat) + (1 : Nat)) 0 0 true, .any, AV.int IntKind.i64 (tlI l a b), AV.int IntKind.i64 (tlI m a b), AV.vsl 0 0 (List.length (List.map enE l)), .any, .any, .any, .any, .any, .any, .any, .any, .any, .any, .any, .any, .any, .any, AV.vsl ((0 : Nat) + (1 : Nat) + (1 : Nat) + (1 : Nat)) 0 (List.length (List.map spE (stE l m))), AV.int IntKind.i64 (↑(List.length (List.map spE (stE l m))) : Int), AV.int IntKind.i64 0, .any, .any, .any, .any, .any, .any, .any, .any, .any, .any, .any, .any, .any, .any, .any, .any, .any, .any, .any, .any, .any, .any, .any, .any, .any] [some (Blk.mk false (42 : TypeId) 6 true (List.map enE l)), some (Blk.mk false (42 : TypeId) 6 true (List.map enE m)), some (Blk.mk true (25 : TypeId) 2 true [AV.agg [AV.w64 a, AV.w64 b]]), some (Blk.mk true (59 : TypeId) 7 true (List.map spE (stE l m)))] = St.mk [.any, .any, .any, .any, .any, AV.ptr 2 0 0 true, .any, AV.int IntKind.i64 (tlI l a b), AV.int IntKind.i64 (tlI m a b), AV.vsl 0 0 (List.length (List.map enE l)), .any, .any, .any, .any, .any, .any, .any, .any, .any, .any, .any, .any, .any, .any, AV.vsl 3 0 (List.length (List.map spE (stE l m))), AV.int IntKind.i64 (↑(List.length (List.map spE (stE l m))) : Int), AV.int IntKind.i64 0, .any, .any, .any, .any, .any, .any, .any, .any, .any, .any, .any, .any, .any, .any, .any, .any, .any, .any, .any, .any, .any, .any, .any, .any, .any] ([some (Blk.mk false (42 : TypeId) 6 true (List.map enE l)), some (Blk.mk false (42 : TypeId) 6 true (List.map enE m)), some (Blk.mk true (25 : TypeId) 2 true [AV.agg [AV.w64 a, AV.w64 b]])] ++ [some (Blk.mk true (59 : TypeId) 7 true (List.map spE (stE l m)))]) ∧ True) ∧ (∀ (_ : Unit), True → (Decidable.decide ((0 : Int) < (↑(List.length (List.map spE (stE l m))) : Int)) = true → ((0 : Int) ≤ (0 : Int) ∧ (0 : Int) < (↑(List.length (List.map spE (stE l m))) : Int)) ∧ Blk.read Proofs.Try.prog (Blk.mk true (59 : TypeId) 7 true (List.map spE (stE l m))) 59 ((0 : Nat) + Int.toNat 0) 0 = some (AV.agg [AV.int IntKind.i64 (at' (stE l m) 0).1, AV.w64 (Sp.e (at' (stE l m) 0)).1, AV.w64 (Sp.e (at' (stE l m) 0)).2, AV.w64 (Sp.e (at' (stE l m) 0)).3, AV.w64 (Sp.e (at' (stE l m) 0)).4, AV.int IntKind.i64 (Sp.e (at' (stE l m) 0)).5, AV.int IntKind.i64 (Sp.e (at' (stE l m) 0)).6]) ∧ (0 : Nat) + List.length (List.map enE l) ≤ List.length (List.map enE l) ∧ List.take (List.length (List.map enE l)) (List.drop 0 (List.map enE l)) = List.map enE (deE (List.take (List.length (List.map enE l)) (List.drop 0 (List.map enE l)))) ∧ List.length (deE (List.take (List.length (List.map enE l)) (List.drop 0 (List.map enE l)))) ≤ (1000000 : Nat) ∧ (List.map enE (doE (deE (List.take (List.length (List.map enE l)) (List.drop 0 (List.map enE l)))) (Sp.mk (at' (stE l m) 0).1 (En.mk (Sp.e (at' (stE l m) 0)).1 (Sp.e (at' (stE l m) 0)).2 (Sp.e (at' (stE l m) 0)).3 (Sp.e (at' (stE l m) 0)).4 (Sp.e (at' (stE l m) 0)).5 (Sp.e (at' (stE l m) 0)).6))) = List.map enE (tdE l m ((0 : Nat) + (1 : Nat))) ∧ List.length (List.map enE (doE (deE (List.take (List.length (List.map enE l)) (List.drop 0 (List.map enE l)))) (Sp.mk (at' (stE l m) 0).1 (En.mk (Sp.e (at' (stE l m) 0)).1 (Sp.e (at' (stE l m) 0)).2 (Sp.e (at' (stE l m) 0)).3 (Sp.e (at' (stE l m) 0)).4 (Sp.e (at' (stE l m) 0)).5 (Sp.e (at' (stE l m) 0)).6)))) = List.length (List.map enE (tdE l m ((0 : Nat) + (1 : Nat))))) ∧ (0 : Nat) + List.length (List.map enE (tdE l m ((0 : Nat) + (1 : Nat)))) ≤ List.length (List.map enE (tdE l m ((0 : Nat) + (1 : Nat)))) ∧ List.take (List.length (List.map enE (tdE l m ((0 : Nat) + (1 : Nat))))) (List.drop 0 (List.map enE (tdE l m ((0 : Nat) + (1 : Nat))))) = List.map enE (deE (List.take (List.length (List.map enE (tdE l m ((0 : Nat) + (1 : Nat))))) (List.drop 0 (List.map enE (tdE l m ((0 : Nat) + (1 : Nat))))))) ∧ List.length (deE (List.take (List.length (List.map enE (tdE l m ((0 : Nat) + (1 : Nat))))) (List.drop 0 (List.map enE (tdE l m ((0 : Nat) + (1 : Nat))))))) ≤ (1000000 : Nat) ∧ (List.map enE (deE (List.take (List.length (List.map enE (tdE l m ((0 : Nat) + (1 : Nat))))) (List.drop 0 (List.map enE (tdE l m ((0 : Nat) + (1 : Nat))))))) = List.map enE (tdE l m ((0 : Nat) + (1 : Nat))) ∧ List.length (List.map enE (deE (List.take (List.length (List.map enE (tdE l m ((0 : Nat) + (1 : Nat))))) (List.drop 0 (List.map enE (tdE l m ((0 : Nat) + (1 : Nat)))))))) = List.length (List.map enE (tdE l m ((0 : Nat) + (1 : Nat))))) ∧ (0 : Nat) + List.length (List.map enE (tdE l m ((0 : Nat) + (1 : Nat)))) ≤ List.length (List.map enE (tdE l m ((0 : Nat) + (1 : Nat)))) ∧ List.take (List.length (List.map enE (tdE l m ((0 : Nat) + (1 : Nat))))) (List.drop 0 (List.map enE (tdE l m ((0 : Nat) + (1 : Nat))))) = List.map enE (deE (List.take (List.length (List.map enE (tdE l m ((0 : Nat) + (1 : Nat))))) (List.drop 0 (List.map enE (tdE l m ((0 : Nat) + (1 : Nat))))))) ∧ List.length (deE (List.take (List.length (List.map enE (tdE l m ((0 : Nat) + (1 : Nat))))) (List.drop 0 (List.map enE (tdE l m ((0 : Nat) + (1 : Nat))))))) ≤ (9223372036854775807 : Nat) ∧ ((tlI (deE (List.take (List.length (List.map enE (tdE l m ((0 : Nat) + (1 : Nat))))) (List.drop 0 (List.map enE (tdE l m ((0 : Nat) + (1 : Nat))))))) a b != tlI l a b) = true → (tlI (deE (List.take (List.length (List.map enE (tdE l m ((0 : Nat) + (1 : Nat))))) (List.drop 0 (List.map enE (tdE l m ((0 : Nat) + (1 : Nat))))))) a b != tlI m a b) = false ∧ inRange IntKind.i64 ((0 : Int) + (1 : Int)) ∧ ((∃ (_ : Unit), St.mk [.any, .any, .any, .any, .any, AV.ptr ((0 : Nat) + (1 : Nat) + (1 : Nat)) 0 0 true, .any, AV.int IntKind.i64 (tlI l a b), AV.int IntKind.i64 (tlI m a b), AV.vsl ((0 : Nat) + (1 : Nat) + (1 : Nat) + (1 : Nat)) 0 (List.length (List.map enE (tdE l m ((0 : Nat) + (1 : Nat))))), .any, .any, .any, .any, .any, .any, .any, .any, .any, .any, .any, .any, .any, .any, AV.vsl ((0 : Nat) + (1 : Nat) + (1 : Nat) + (1 : Nat) + (1 : Nat)) 0 (List.length (List.map spE (stE l m))), AV.int IntKind.i64 (↑(List.length (List.map spE (stE l m))) : Int), AV.int IntKind.i64 ((0 : Int) + (1 : Int)), .any, .any, .any, .any, .any, .any, .any, .any, .any, .any, .any, .any, .any, .any, .any, .any, .any, .any, .any, .any, .any, .any, .any, .any, .any] [some (Blk.mk false (42 : TypeId) 6 true (List.map enE l)), some (Blk.mk false (42 : TypeId) 6 true (List.map enE m)), some (Blk.mk true (25 : TypeId) 2 true [AV.agg [AV.w64 a, AV.w64 b]]), some (Blk.mk true (42 : TypeId) 6 true (List.map enE (tdE l m ((0 : Nat) + (1 : Nat))))), some (Blk.mk true (59 : TypeId) 7 true (List.map spE (stE l m)))] = St.mk [.any, .any, .any, .any, .any, AV.ptr 2 0 0 true, .any, AV.int IntKind.i64 (tlI l a b), AV.int IntKind.i64 (tlI m a b), AV.vsl 0 0 (List.length (List.map enE l)), .any, .any, .any, .any, .any, .any, .any, .any, .any, .any, .any, .any, .any, .any, AV.vsl 3 0 (List.length (List.map spE (stE l m))), AV.int IntKind.i64 (↑(List.length (List.map spE (stE l m))) : Int), AV.int IntKind.i64 0, .any, .any, .any, .any, .any, .any, .any, .any, .any, .any, .any, .any, .any, .any, .any, .any, .any, .any, .any, .any, .any, .any, .any, .any, .any] ([some (Blk.mk false (42 : TypeId) 6 true (List.map enE l)), some (Blk.mk false (42 : TypeId) 6 true (List.map enE m)), some (Blk.mk true (25 : TypeId) 2 true [AV.agg [AV.w64 a, AV.w64 b]])] ++ [some (Blk.mk true (59 : TypeId) 7 true (List.map spE (stE l m)))]) ∧ True ∧ List.length (stE l m) + (1 : Nat) < List.length (stE l m) + (1 : Nat)) ∨ ∃ (q : Nat), St.mk [.any, .any, .any, .any, .any, AV.ptr ((0 : Nat) + (1 : Nat) + (1 : Nat)) 0 0 true, .any, AV.int IntKind.i64 (tlI l a b), AV.int IntKind.i64 (tlI m a b), AV.vsl ((0 : Nat) + (1 : Nat) + (1 : Nat) + (1 : Nat)) 0 (List.length (List.map enE (tdE l m ((0 : Nat) + (1 : Nat))))), .any, .any, .any, .any, .any, .any, .any, .any, .any, .any, .any, .any, .any, .any, AV.vsl ((0 : Nat) + (1 : Nat) + (1 : Nat) + (1 : Nat) + (1 : Nat)) 0 (List.length (List.map spE (stE l m))), AV.int IntKind.i64 (↑(List.length (List.map spE (stE l m))) : Int), AV.int IntKind.i64 ((0 : Int) + (1 : Int)), .any, .any, .any, .any, .any, .any, .any, .any, .any, .any, .any, .any, .any, .any, .any, .any, .any, .any, .any, .any, .any, .any, .any, .any, .any] [some (Blk.mk false (42 : TypeId) 6 true (List.map enE l)), some (Blk.mk false (42 : TypeId) 6 true (List.map enE m)), some (Blk.mk true (25 : TypeId) 2 true [AV.agg [AV.w64 a, AV.w64 b]]), some (Blk.mk true (42 : TypeId) 6 true (List.map enE (tdE l m ((0 : Nat) + (1 : Nat))))), some (Blk.mk true (59 : TypeId) 7 true (List.map spE (stE l m)))] = tdS2 l m a b q ∧ Nat.le q (List.length (stE l m)) ∧ List.length (stE l m) + (1 : Nat) - q < List.length (stE l m) + (1 : Nat))) ∧ ((tlI (deE (List.take (List.length (List.map enE (tdE l m ((0 : Nat) + (1 : Nat))))) (List.drop 0 (List.map enE (tdE l m ((0 : Nat) + (1 : Nat))))))) a b != tlI l a b) = false → inRange IntKind.i64 ((0 : Int) + (1 : Int)) ∧ ((∃ (_ : Unit), St.mk [.any, .any, .any, .any, .any, AV.ptr ((0 : Nat) + (1 : Nat) + (1 : Nat)) 0 0 true, .any, AV.int IntKind.i64 (tlI l a b), AV.int IntKind.i64 (tlI m a b), AV.vsl ((0 : Nat) + (1 : Nat) + (1 : Nat) + (1 : Nat)) 0 (List.length (List.map enE (tdE l m ((0 : Nat) + (1 : Nat))))), .any, .any, .any, .any, .any, .any, .any, .any, .any, .any, .any, .any, .any, .any, AV.vsl ((0 : Nat) + (1 : Nat) + (1 : Nat) + (1 : Nat) + (1 : Nat)) 0 (List.length (List.map spE (stE l m))), AV.int IntKind.i64 (↑(List.length (List.map spE (stE l m))) : Int), AV.int IntKind.i64 ((0 : Int) + (1 : Int)), .any, .any, .any, .any, .any, .any, .any, .any, .any, .any, .any, .any, .any, .any, .any, .any, .any, .any, .any, .any, .any, .any, .any, .any, .any] [some (Blk.mk false (42 : TypeId) 6 true (List.map enE l)), some (Blk.mk false (42 : TypeId) 6 true (List.map enE m)), some (Blk.mk true (25 : TypeId) 2 true [AV.agg [AV.w64 a, AV.w64 b]]), some (Blk.mk true (42 : TypeId) 6 true (List.map enE (tdE l m ((0 : Nat) + (1 : Nat))))), some (Blk.mk true (59 : TypeId) 7 true (List.map spE (stE l m)))] = St.mk [.any, .any, .any, .any, .any, AV.ptr 2 0 0 true, .any, AV.int IntKind.i64 (tlI l a b), AV.int IntKind.i64 (tlI m a b), AV.vsl 0 0 (List.length (List.map enE l)), .any, .any, .any, .any, .any, .any, .any, .any, .any, .any, .any, .any, .any, .any, AV.vsl 3 0 (List.length (List.map spE (stE l m))), AV.int IntKind.i64 (↑(List.length (List.map spE (stE l m))) : Int), AV.int IntKind.i64 0, .any, .any, .any, .any, .any, .any, .any, .any, .any, .any, .any, .any, .any, .any, .any, .any, .any, .any, .any, .any, .any, .any, .any, .any, .any] ([some (Blk.mk false (42 : TypeId) 6 true (List.map enE l)), some (Blk.mk false (42 : TypeId) 6 true (List.map enE m)), some (Blk.mk true (25 : TypeId) 2 true [AV.agg [AV.w64 a, AV.w64 b]])] ++ [some (Blk.mk true (59 : TypeId) 7 true (List.map spE (stE l m)))]) ∧ True ∧ List.length (stE l m) + (1 : Nat) < List.length (stE l m) + (1 : Nat)) ∨ ∃ (q : Nat), St.mk [.any, .any, .any, .any, .any, AV.ptr ((0 : Nat) + (1 : Nat) + (1 : Nat)) 0 0 true, .any, AV.int IntKind.i64 (tlI l a b), AV.int IntKind.i64 (tlI m a b), AV.vsl ((0 : Nat) + (1 : Nat) + (1 : Nat) + (1 : Nat)) 0 (List.length (List.map enE (tdE l m ((0 : Nat) + (1 : Nat))))), .any, .any, .any, .any, .any, .any, .any, .any, .any, .any, .any, .any, .any, .any, AV.vsl ((0 : Nat) + (1 : Nat) + (1 : Nat) + (1 : Nat) + (1 : Nat)) 0 (List.length (List.map spE (stE l m))), AV.int IntKind.i64 (↑(List.length (List.map spE (stE l m))) : Int), AV.int IntKind.i64 ((0 : Int) + (1 : Int)), .any, .any, .any, .any, .any, .any, .any, .any, .any, .any, .any, .any, .any, .any, .any, .any, .any, .any, .any, .any, .any, .any, .any, .any, .any] [some (Blk.mk false (42 : TypeId) 6 true (List.map enE l)), some (Blk.mk false (42 : TypeId) 6 true (List.map enE m)), some (Blk.mk true (25 : TypeId) 2 true [AV.agg [AV.w64 a, AV.w64 b]]), some (Blk.mk true (42 : TypeId) 6 true (List.map enE (tdE l m ((0 : Nat) + (1 : Nat))))), some (Blk.mk true (59 : TypeId) 7 true (List.map spE (stE l m)))] = tdS2 l m a b q ∧ Nat.le q (List.length (stE l m)) ∧ List.length (stE l m) + (1 : Nat) - q < List.length (stE l m) + (1 : Nat)))) ∧ (Decidable.decide ((0 : Int) < (↑(List.length (List.map spE (stE l m))) : Int)) = false → (0 : Nat) + List.length (List.map enE l) ≤ List.length (List.map enE l) ∧ List.take (List.length (List.map enE l)) (List.drop 0 (List.map enE l)) = List.map enE (deE (List.take (List.length (List.map enE l)) (List.drop 0 (List.map enE l)))) ∧ List.length (deE (List.take (List.length (List.map enE l)) (List.drop 0 (List.map enE l)))) ≤ (1000000 : Nat) ∧ (List.map enE (deE (List.take (List.length (List.map enE l)) (List.drop 0 (List.map enE l)))) = List.map enE l ∧ List.length (List.map enE (deE (List.take (List.length (List.map enE l)) (List.drop 0 (List.map enE l))))) = List.length (List.map enE l)) ∧ (0 : Nat) + List.length (List.map enE l) ≤ List.length (List.map enE l) ∧ List.take (List.length (List.map enE l)) (List.drop 0 (List.map enE l)) = List.map enE (deE (List.take (List.length (List.map enE l)) (List.drop 0 (List.map enE l)))) ∧ List.length (deE (List.take (List.length (List.map enE l)) (List.drop 0 (List.map enE l)))) ≤ (9223372036854775807 : Nat) ∧ AV.bool (tlI (deE (List.take (List.length (List.map enE l)) (List.drop 0 (List.map enE l)))) a b == tlI m a b) = r)) ∧ ∀ (q : Nat), Nat.le q (List.length (stE l m)) → (Decidable.decide ((↑q : Int) < (↑(List.length (List.map spE (stE l m))) : Int)) = true → ((0 : Int) ≤ (↑q : Int) ∧ (↑q : Int) < (↑(List.length (List.map spE (stE l m))) : Int)) ∧ Blk.read Proofs.Try.prog (Blk.mk true (59 : TypeId) 7 true (List.map spE (stE l m))) 59 ((0 : Nat) + Int.toNat (↑q : Int)) 0 = some (AV.agg [AV.int IntKind.i64 (at' (stE l m) q).1, AV.w64 (Sp.e (at' (stE l m) q)).1, AV.w64 (Sp.e (at' (stE l m) q)).2, AV.w64 (Sp.e (at' (stE l m) q)).3, AV.w64 (Sp.e (at' (stE l m) q)).4, AV.int IntKind.i64 (Sp.e (at' (stE l m) q)).5, AV.int IntKind.i64 (Sp.e (at' (stE l m) q)).6]) ∧ (0 : Nat) + List.length (List.map enE (tdE l m q)) ≤ List.length (List.map enE (tdE l m q)) ∧ List.take (List.length (List.map enE (tdE l m q))) (List.drop 0 (List.map enE (tdE l m q))) = List.map enE (deE (List.take (List.length (List.map enE (tdE l m q))) (List.drop 0 (List.map enE (tdE l m q))))) ∧ List.length (deE (List.take (List.length (List.map enE (tdE l m q))) (List.drop 0 (List.map enE (tdE l m q))))) ≤ (1000000 : Nat) ∧ (List.map enE (doE (deE (List.take (List.length (List.map enE (tdE l m q))) (List.drop 0 (List.map enE (tdE l m q))))) (Sp.mk (at' (stE l m) q).1 (En.mk (Sp.e (at' (stE l m) q)).1 (Sp.e (at' (stE l m) q)).2 (Sp.e (at' (stE l m) q)).3 (Sp.e (at' (stE l m) q)).4 (Sp.e (at' (stE l m) q)).5 (Sp.e (at' (stE l m) q)).6))) = List.map enE (tdE l m (q + (1 : Nat))) ∧ List.length (List.map enE (doE (deE (List.take (List.length (List.map enE (tdE l m q))) (List.drop 0 (List.map enE (tdE l m q))))) (Sp.mk (at' (stE l m) q).1 (En.mk (Sp.e (at' (stE l m) q)).1 (Sp.e (at' (stE l m) q)).2 (Sp.e (at' (stE l m) q)).3 (Sp.e (at' (stE l m) q)).4 (Sp.e (at' (stE l m) q)).5 (Sp.e (at' (stE l m) q)).6)))) = List.length (List.map enE (tdE l m (q + (1 : Nat))))) ∧ (0 : Nat) + List.length (List.map enE (tdE l m (q + (1 : Nat)))) ≤ List.length (List.map enE (tdE l m (q + (1 : Nat)))) ∧ List.take (List.length (List.map enE (tdE l m (q + (1 : Nat))))) (List.drop 0 (List.map enE (tdE l m (q + (1 : Nat))))) = List.map enE (deE (List.take (List.length (List.map enE (tdE l m (q + (1 : Nat))))) (List.drop 0 (List.map enE (tdE l m (q + (1 : Nat))))))) ∧ List.length (deE (List.take (List.length (List.map enE (tdE l m (q + (1 : Nat))))) (List.drop 0 (List.map enE (tdE l m (q + (1 : Nat))))))) ≤ (1000000 : Nat) ∧ (List.map enE (deE (List.take (List.length (List.map enE (tdE l m (q + (1 : Nat))))) (List.drop 0 (List.map enE (tdE l m (q + (1 : Nat))))))) = List.map enE (tdE l m (q + (1 : Nat))) ∧ List.length (List.map enE (deE (List.take (List.length (List.map enE (tdE l m (q + (1 : Nat))))) (List.drop 0 (List.map enE (tdE l m (q + (1 : Nat)))))))) = List.length (List.map enE (tdE l m (q + (1 : Nat))))) ∧ (0 : Nat) + List.length (List.map enE (tdE l m (q + (1 : Nat)))) ≤ List.length (List.map enE (tdE l m (q + (1 : Nat)))) ∧ List.take (List.length (List.map enE (tdE l m (q + (1 : Nat))))) (List.drop 0 (List.map enE (tdE l m (q + (1 : Nat))))) = List.map enE (deE (List.take (List.length (List.map enE (tdE l m (q + (1 : Nat))))) (List.drop 0 (List.map enE (tdE l m (q + (1 : Nat))))))) ∧ List.length (deE (List.take (List.length (List.map enE (tdE l m (q + (1 : Nat))))) (List.drop 0 (List.map enE (tdE l m (q + (1 : Nat))))))) ≤ (9223372036854775807 : Nat) ∧ ((tlI (deE (List.take (List.length (List.map enE (tdE l m (q + (1 : Nat))))) (List.drop 0 (List.map enE (tdE l m (q + (1 : Nat))))))) a b != tlI l a b) = true → (tlI (deE (List.take (List.length (List.map enE (tdE l m (q + (1 : Nat))))) (List.drop 0 (List.map enE (tdE l m (q + (1 : Nat))))))) a b != tlI m a b) = false ∧ inRange IntKind.i64 ((↑q : Int) + (1 : Int)) ∧ ((∃ (_ : Unit), St.mk [.any, .any, .any, .any, .any, AV.ptr ((0 : Nat) + (1 : Nat) + (1 : Nat)) 0 0 true, .any, AV.int IntKind.i64 (tlI l a b), AV.int IntKind.i64 (tlI m a b), AV.vsl ((0 : Nat) + (1 : Nat) + (1 : Nat) + (1 : Nat)) 0 (List.length (List.map enE (tdE l m (q + (1 : Nat))))), .any, .any, .any, .any, .any, .any, .any, .any, .any, .any, .any, .any, .any, .any, AV.vsl ((0 : Nat) + (1 : Nat) + (1 : Nat) + (1 : Nat) + (1 : Nat)) 0 (List.length (List.map spE (stE l m))), AV.int IntKind.i64 (↑(List.length (List.map spE (stE l m))) : Int), AV.int IntKind.i64 ((↑q : Int) + (1 : Int)), .any, .any, .any, .any, .any, .any, .any, .any, .any, .any, .any, .any, .any, .any, .any, .any, .any, .any, .any, .any, .any, .any, .any, .any, .any] [some (Blk.mk false (42 : TypeId) 6 true (List.map enE l)), some (Blk.mk false (42 : TypeId) 6 true (List.map enE m)), some (Blk.mk true (25 : TypeId) 2 true [AV.agg [AV.w64 a, AV.w64 b]]), some (Blk.mk true (42 : TypeId) 6 true (List.map enE (tdE l m (q + (1 : Nat))))), some (Blk.mk true (59 : TypeId) 7 true (List.map spE (stE l m)))] = St.mk [.any, .any, .any, .any, .any, AV.ptr 2 0 0 true, .any, AV.int IntKind.i64 (tlI l a b), AV.int IntKind.i64 (tlI m a b), AV.vsl 0 0 (List.length (List.map enE l)), .any, .any, .any, .any, .any, .any, .any, .any, .any, .any, .any, .any, .any, .any, AV.vsl 3 0 (List.length (List.map spE (stE l m))), AV.int IntKind.i64 (↑(List.length (List.map spE (stE l m))) : Int), AV.int IntKind.i64 0, .any, .any, .any, .any, .any, .any, .any, .any, .any, .any, .any, .any, .any, .any, .any, .any, .any, .any, .any, .any, .any, .any, .any, .any, .any] ([some (Blk.mk false (42 : TypeId) 6 true (List.map enE l)), some (Blk.mk false (42 : TypeId) 6 true (List.map enE m)), some (Blk.mk true (25 : TypeId) 2 true [AV.agg [AV.w64 a, AV.w64 b]])] ++ [some (Blk.mk true (59 : TypeId) 7 true (List.map spE (stE l m)))]) ∧ True ∧ List.length (stE l m) + (1 : Nat) < List.length (stE l m) + (1 : Nat) - q) ∨ ∃ (q' : Nat), St.mk [.any, .any, .any, .any, .any, AV.ptr ((0 : Nat) + (1 : Nat) + (1 : Nat)) 0 0 true, .any, AV.int IntKind.i64 (tlI l a b), AV.int IntKind.i64 (tlI m a b), AV.vsl ((0 : Nat) + (1 : Nat) + (1 : Nat) + (1 : Nat)) 0 (List.length (List.map enE (tdE l m (q + (1 : Nat))))), .any, .any, .any, .any, .any, .any, .any, .any, .any, .any, .any, .any, .any, .any, AV.vsl ((0 : Nat) + (1 : Nat) + (1 : Nat) + (1 : Nat) + (1 : Nat)) 0 (List.length (List.map spE (stE l m))), AV.int IntKind.i64 (↑(List.length (List.map spE (stE l m))) : Int), AV.int IntKind.i64 ((↑q : Int) + (1 : Int)), .any, .any, .any, .any, .any, .any, .any, .any, .any, .any, .any, .any, .any, .any, .any, .any, .any, .any, .any, .any, .any, .any, .any, .any, .any] [some (Blk.mk false (42 : TypeId) 6 true (List.map enE l)), some (Blk.mk false (42 : TypeId) 6 true (List.map enE m)), some (Blk.mk true (25 : TypeId) 2 true [AV.agg [AV.w64 a, AV.w64 b]]), some (Blk.mk true (42 : TypeId) 6 true (List.map enE (tdE l m (q + (1 : Nat))))), some (Blk.mk true (59 : TypeId) 7 true (List.map spE (stE l m)))] = tdS2 l m a b q' ∧ Nat.le q' (List.length (stE l m)) ∧ List.length (stE l m) + (1 : Nat) - q' < List.length (stE l m) + (1 : Nat) - q)) ∧ ((tlI (deE (List.take (List.length (List.map enE (tdE l m (q + (1 : Nat))))) (List.drop 0 (List.map enE (tdE l m (q + (1 : Nat))))))) a b != tlI l a b) = false → inRange IntKind.i64 ((↑q : Int) + (1 : Int)) ∧ ((∃ (_ : Unit), St.mk [.any, .any, .any, .any, .any, AV.ptr ((0 : Nat) + (1 : Nat) + (1 : Nat)) 0 0 true, .any, AV.int IntKind.i64 (tlI l a b), AV.int IntKind.i64 (tlI m a b), AV.vsl ((0 : Nat) + (1 : Nat) + (1 : Nat) + (1 : Nat)) 0 (List.length (List.map enE (tdE l m (q + (1 : Nat))))), .any, .any, .any, .any, .any, .any, .any, .any, .any, .any, .any, .any, .any, .any, AV.vsl ((0 : Nat) + (1 : Nat) + (1 : Nat) + (1 : Nat) + (1 : Nat)) 0 (List.length (List.map spE (stE l m))), AV.int IntKind.i64 (↑(List.length (List.map spE (stE l m))) : Int), AV.int IntKind.i64 ((↑q : Int) + (1 : Int)), .any, .any, .any, .any, .any, .any, .any, .any, .any, .any, .any, .any, .any, .any, .any, .any, .any, .any, .any, .any, .any, .any, .any, .any, .any] [some (Blk.mk false (42 : TypeId) 6 true (List.map enE l)), some (Blk.mk false (42 : TypeId) 6 true (List.map enE m)), some (Blk.mk true (25 : TypeId) 2 true [AV.agg [AV.w64 a, AV.w64 b]]), some (Blk.mk true (42 : TypeId) 6 true (List.map enE (tdE l m (q + (1 : Nat))))), some (Blk.mk true (59 : TypeId) 7 true (List.map spE (stE l m)))] = St.mk [.any, .any, .any, .any, .any, AV.ptr 2 0 0 true, .any, AV.int IntKind.i64 (tlI l a b), AV.int IntKind.i64 (tlI m a b), AV.vsl 0 0 (List.length (List.map enE l)), .any, .any, .any, .any, .any, .any, .any, .any, .any, .any, .any, .any, .any, .any, AV.vsl 3 0 (List.length (List.map spE (stE l m))), AV.int IntKind.i64 (↑(List.length (List.map spE (stE l m))) : Int), AV.int IntKind.i64 0, .any, .any, .any, .any, .any, .any, .any, .any, .any, .any, .any, .any, .any, .any, .any, .any, .any, .any, .any, .any, .any, .any, .any, .any, .any] ([some (Blk.mk false (42 : TypeId) 6 true (List.map enE l)), some (Blk.mk false (42 : TypeId) 6 true (List.map enE m)), some (Blk.mk true (25 : TypeId) 2 true [AV.agg [AV.w64 a, AV.w64 b]])] ++ [some (Blk.mk true (59 : TypeId) 7 true (List.map spE (stE l m)))]) ∧ True ∧ List.length (stE l m) + (1 : Nat) < List.length (stE l m) + (1 : Nat) - q) ∨ ∃ (q' : Nat), St.mk [.any, .any, .any, .any, .any, AV.ptr ((0 : Nat) + (1 : Nat) + (1 : Nat)) 0 0 true, .any, AV.int IntKind.i64 (tlI l a b), AV.int IntKind.i64 (tlI m a b), AV.vsl ((0 : Nat) + (1 : Nat) + (1 : Nat) + (1 : Nat)) 0 (List.length (List.map enE (tdE l m (q + (1 : Nat))))), .any, .any, .any, .any, .any, .any, .any, .any, .any, .any, .any, .any, .any, .any, AV.vsl ((0 : Nat) + (1 : Nat) + (1 : Nat) + (1 : Nat) + (1 : Nat)) 0 (List.length (List.map spE (stE l m))), AV.int IntKind.i64 (↑(List.length (List.map spE (stE l m))) : Int), AV.int IntKind.i64 ((↑q : Int) + (1 : Int)), .any, .any, .any, .any, .any, .any, .any, .any, .any, .any, .any, .any, .any, .any, .any, .any, .any, .any, .any, .any, .any, .any, .any, .any, .any] [some (Blk.mk false (42 : TypeId) 6 true (List.map enE l)), some (Blk.mk false (42 : TypeId) 6 true (List.map enE m)), some (Blk.mk true (25 : TypeId) 2 true [AV.agg [AV.w64 a, AV.w64 b]]), some (Blk.mk true (42 : TypeId) 6 true (List.map enE (tdE l m (q + (1 : Nat))))), some (Blk.mk true (59 : TypeId) 7 true (List.map spE (stE l m)))] = tdS2 l m a b q' ∧ Nat.le q' (List.length (stE l m)) ∧ List.length (stE l m) + (1 : Nat) - q' < List.length (stE l m) + (1 : Nat) - q))) ∧ (Decidable.decide ((↑q : Int) < (↑(List.length (List.map spE (stE l m))) : Int)) = false → (0 : Nat) + List.length (List.map enE (tdE l m q)) ≤ List.length (List.map enE (tdE l m q)) ∧ List.take (List.length (List.map enE (tdE l m q))) (List.drop 0 (List.map enE (tdE l m q))) = List.map enE (deE (List.take (List.length (List.map enE (tdE l m q))) (List.drop 0 (List.map enE (tdE l m q))))) ∧ List.length (deE (List.take (List.length (List.map enE (tdE l m q))) (List.drop 0 (List.map enE (tdE l m q))))) ≤ (1000000 : Nat) ∧ (List.map enE (deE (List.take (List.length (List.map enE (tdE l m q))) (List.drop 0 (List.map enE (tdE l m q))))) = List.map enE (tdE l m q) ∧ List.length (List.map enE (deE (List.take (List.length (List.map enE (tdE l m q))) (List.drop 0 (List.map enE (tdE l m q)))))) = List.length (List.map enE (tdE l m q))) ∧ (0 : Nat) + List.length (List.map enE (tdE l m q)) ≤ List.length (List.map enE (tdE l m q)) ∧ List.take (List.length (List.map enE (tdE l m q))) (List.drop 0 (List.map enE (tdE l m q))) = List.map enE (deE (List.take (List.length (List.map enE (tdE l m q))) (List.drop 0 (List.map enE (tdE l m q))))) ∧ List.length (deE (List.take (List.length (List.map enE (tdE l m q))) (List.drop 0 (List.map enE (tdE l m q))))) ≤ (9223372036854775807 : Nat) ∧ AV.bool (tlI (deE (List.take (List.length (List.map enE (tdE l m q))) (List.drop 0 (List.map enE (tdE l m q))))) a b == tlI m a b) = r)) := by kernel_rfl

theorem told11_law (l m : List En) (a b : BitVec 64) (hl : l.length ≤ 1000) (sl : siE l = true) (hm : m.length ≤ 1000) (sm : siE m = true) :
    ∃ hs, run told11Cs Try.prog 35 [.vsl 0 0 (l.map enE).length, .vsl 1 0 (m.map enE).length, .agg [.w64 a, .w64 b]] [some ⟨false, 42, 6, true, l.map enE⟩, some ⟨false, 42, 6, true, m.map enE⟩] hs (yields (.v (.bool true))) := by
  refine ⟨(tdH l m a b), ?_⟩
  rw [told11_run]
  have hs := stE_length l m
  have hd : ∀ p, (tdE l m p).length ≤ 3000 := fun p => by have := lpE_len l (stE l m) p; unfold tdE; omega
  have hd6 : ∀ p, (tdE l m p).length ≤ 1000000 := fun p => Nat.le_trans (hd p) (by decide)
  have hdm : ∀ p, (tdE l m p).length ≤ 9223372036854775807 := fun p => Nat.le_trans (hd p) (by decide)
  have hsm : ((stE l m).map spE).length = (stE l m).length := List.length_map _
  have nx : ∀ {p}, p < (stE l m).length → doE (tdE l m p) (at' (stE l m) p) = tdE l m (p + 1) := fun hp => (lpE_next hp).symm
  have t0 : tdE l m 0 = l := rfl
  have eA : tdE l m (stE l m).length = (stE l m).foldl doE l := lpE_all _ _
  have st : ∀ p, (tlI (tdE l m p) a b != tlI l a b) = true → (tlI (tdE l m p) a b != tlI m a b) = false := fun p h => by
    rcases st_told sl sm a b p with e | e
    · rw [show tlI (tdE l m p) a b = tlI l a b from e] at h; simp at h
    · rw [show tlI (tdE l m p) a b = tlI m a b from e]; simp
  have ei : ∀ p, (⟨(at' (stE l m) p).k, ⟨(at' (stE l m) p).e.v, (at' (stE l m) p).e.w, (at' (stE l m) p).e.m, (at' (stE l m) p).e.n, (at' (stE l m) p).e.len, (at' (stE l m) p).e.act⟩⟩ : Sp) = at' (stE l m) p := fun _ => rfl
  have i1 : ∀ p, p ≤ (stE l m).length → inRange .i64 ((p : Int) + 1) := fun p hp => inR (by omega) (by omega)
  simp only [whole_row, deE_map, zLe, true_and, and_true, eq_self, ei, hd6, hdm, eq_true (show l.length ≤ 1000000 by omega), eq_true (show l.length ≤ 9223372036854775807 by omega), eq_true (show m.length ≤ 1000000 by omega), eq_true (show m.length ≤ 9223372036854775807 by omega)]
  refine ⟨⟨(), trivial⟩, fun _ _ => ⟨rfl, fun _ _ => ⟨fun hlt => ?_, fun hge => ?_⟩, fun q hq => ⟨fun hlt => ?_, fun hge => ?_⟩⟩⟩
  · have hp : 0 < (stE l m).length := by have := of_decide_eq_true hlt; omega
    have e : doE l (at' (stE l m) 0) = tdE l m (0 + 1) := nx hp
    have go : inRange .i64 (0 + 1) := i1 0 (by omega)
    exact ⟨⟨Int.le_refl _, of_decide_eq_true hlt⟩, read_rows (Int.le_refl _) (of_decide_eq_true hlt) (sp_whole _), ⟨congrArg (List.map enE) e, congrArg (fun x => (List.map enE x).length) e⟩,
      fun h => ⟨st _ h, go, .inr ⟨0 + 1, rfl, hp, by omega⟩⟩, fun _ => ⟨go, .inr ⟨0 + 1, rfl, hp, by omega⟩⟩⟩
  · have hp : (stE l m).length = 0 := by have := of_decide_eq_false hge; omega
    have e := st_told_end sl sm a b
    rw [← eA, hp, t0] at e
    rw [e, beq_self_eq_true]
  · have hp : q < (stE l m).length := by have := of_decide_eq_true hlt; omega
    have e := nx hp
    have go : inRange .i64 ((q : Int) + 1) := i1 q (by omega)
    exact ⟨⟨by omega, by omega⟩, read_rows (by omega) (by omega) (sp_whole _), ⟨congrArg (List.map enE) e, congrArg (fun x => (List.map enE x).length) e⟩,
      fun h => ⟨st _ h, go, .inr ⟨q + 1, rfl, hp, by omega⟩⟩, fun _ => ⟨go, .inr ⟨q + 1, rfl, hp, by omega⟩⟩⟩
  · have hp : q = (stE l m).length := by have := of_decide_eq_false hge; have : q ≤ (stE l m).length := hq; omega
    subst hp
    have e := st_told_end sl sm a b
    rw [← eA] at e
    rw [e, beq_self_eq_true]

set_option maxRecDepth 1000000 in
theorem told11_of (h : ∀ e ∈ told11Cs, SpecOK Try.prog e.1 e.2) : SpecOK Try.prog 35 (genSpec [pEn, pEn, none] told11F) := by
  refine genSpec_ok (run_ok (l := told11Cs) h mixed noNG) fun l R hF => ?_
  unfold told11F at hF
  split at hF
  · rename_i r_l r_m a b
    obtain ⟨hr_l, hl, hr_m, hm, hF⟩ := hF
    generalize deE r_l = l at hr_l hl
    generalize deE r_m = m at hr_m hm
    subst hr_l
    subst hr_m
    obtain ⟨hs, r⟩ := told11_law l m a b hl.1 hl.2 hm.1 hm.2
    exact ⟨_, hF, rfl, hs, r⟩
  · exact hF.elim

end Go.Proofs.Ytnjbgbdcbejciaa.L1
end

section
/-
  Layer 11: what the document fixes of two rows: the law's awake.
-/
namespace Go.Proofs.Ytnjbgbdcbejciaa.L1
open Go.Sx Go.Sx.M

def awW : BitVec 64 := 720857415355990016
def awP (n : Int) : AV := .agg [.w64 (awW &&& mkW n), .w64 (0 &&& mkW (n - 64)), .int .i64 (clamp n)]
def awE (n j : Int) : En := ⟨awW &&& mkW n &&& mkW (clamp n), 0 &&& mkW (n - 64) &&& mkW (clamp n - 64), mkW (clamp n), mkW (clamp n - 64), clamp (clamp n), j⟩
def awS0 : Sp := ⟨0, awE 16 3⟩
def awS1 : Sp := ⟨1, awE 8 2⟩
def aw11H (T : St) : List Hint := [.cut 57 [2, 3, 4] T [.pur [37, 58], .cell (awP 8), .cell (enE (awE 8 1)), .cell (awP 8), .cell (enE (awE 8 2)), .cell (awP 16), .cell (enE (awE 16 3))],
  .nm [spE awS0, spE awS1], .br true, .cell (spE awS0), .br true, .cell (spE awS1), .br true, .cell (spE awS0), .nm [enE (awE 8 1), enE (awE 16 3)], .br true]

noncomputable def awake11_run_cut0  : St := St.mk [.any, .any, AV.ptr 0 0 0 true, AV.ptr ((0 : Nat) + (1 : Nat)) 0 0 true, AV.ptr ((0 : Nat) + (1 : Nat) + (1 : Nat)) 0 0 true, .any, .any, .any, .any, .any, .any, .any, .any, .any, .any, .any, .any, .any, .any, .any, .any, .any, .any, .any, .any, .any, .any, .any, .any, .any, .any, .any, .any, .any, .any, .any, .any, .any, .any, .any, .any, .any, .any, .any, .any, .any, .any, .any, .any, .any, .any, .any, .any, .any, .any, .any, .any] [some (Blk.mk true (nat_lit 42) 6 true [AV.agg [AV.w64 (awW &&& mkW 8 &&& mkW (clamp 8)), AV.w64 ((0 : BitVec 64) &&& mkW ((8 : Int) - (64 : Int)) &&& mkW (clamp 8 - (64 : Int))), AV.w64 (mkW (clamp 8)), AV.w64 (mkW (clamp 8 - (64 : Int))), AV.int IntKind.i64 (clamp (clamp 8)), AV.int IntKind.i64 1]]), some (Blk.mk true (nat_lit 42) 6 true [AV.agg [AV.w64 (awW &&& mkW 8 &&& mkW (clamp 8)), AV.w64 ((0 : BitVec 64) &&& mkW ((8 : Int) - (64 : Int)) &&& mkW (clamp 8 - (64 : Int))), AV.w64 (mkW (clamp 8)), AV.w64 (mkW (clamp 8 - (64 : Int))), AV.int IntKind.i64 (clamp (clamp 8)), AV.int IntKind.i64 2]]), some (Blk.mk true (nat_lit 42) 6 true [AV.agg [AV.w64 (awW &&& mkW 16 &&& mkW (clamp 16)), AV.w64 ((0 : BitVec 64) &&& mkW ((16 : Int) - (64 : Int)) &&& mkW (clamp 16 - (64 : Int))), AV.w64 (mkW (clamp 16)), AV.w64 (mkW (clamp 16 - (64 : Int))), AV.int IntKind.i64 (clamp (clamp 16)), AV.int IntKind.i64 3]])]

theorem awake11_run (_u : Unit) : run awake11Cs Try.prog 23 [] [] (aw11H awake11_run_cut0) (comesTo (.bool true)) =
    (((([] : Hp) = [] ∧ AV.agg [AV.w64 (BitVec.ofInt 64 720857415355990016 &&& mkW 8), AV.w64 (BitVec.ofInt 64 0 &&& mkW ((8 : Int) - (64 : Int))), AV.int IntKind.i64 (clamp 8)] = AV.agg [AV.w64 (awW &&& mkW 8), AV.w64 ((0 : BitVec 64) &&& mkW ((8 : Int) - (64 : Int))), AV.int IntKind.i64 (clamp 8)]) ∧ (([] : Hp) = [] ∧ AV.agg [AV.w64 (awW &&& mkW 8 &&& mkW (clamp 8)), AV.w64 ((0 : BitVec 64) &&& mkW ((8 : Int) - (64 : Int)) &&& mkW (clamp 8 - (64 : Int))), AV.w64 (mkW (clamp 8)), AV.w64 (mkW (clamp 8 - (64 : Int))), AV.int IntKind.i64 (clamp (clamp 8)), AV.int IntKind.i64 1] = AV.agg [AV.w64 (awW &&& mkW 8 &&& mkW (clamp 8)), AV.w64 ((0 : BitVec 64) &&& mkW ((8 : Int) - (64 : Int)) &&& mkW (clamp 8 - (64 : Int))), AV.w64 (mkW (clamp 8)), AV.w64 (mkW (clamp 8 - (64 : Int))), AV.int IntKind.i64 (clamp (clamp 8)), AV.int IntKind.i64 1]) ∧ (([] : Hp) = [] ∧ AV.agg [AV.w64 (BitVec.ofInt 64 720857415355990016 &&& mkW 8), AV.w64 (BitVec.ofInt 64 0 &&& mkW ((8 : Int) - (64 : Int))), AV.int IntKind.i64 (clamp 8)] = AV.agg [AV.w64 (awW &&& mkW 8), AV.w64 ((0 : BitVec 64) &&& mkW ((8 : Int) - (64 : Int))), AV.int IntKind.i64 (clamp 8)]) ∧ (([] : Hp) = [] ∧ AV.agg [AV.w64 (awW &&& mkW 8 &&& mkW (clamp 8)), AV.w64 ((0 : BitVec 64) &&& mkW ((8 : Int) - (64 : Int)) &&& mkW (clamp 8 - (64 : Int))), AV.w64 (mkW (clamp 8)), AV.w64 (mkW (clamp 8 - (64 : Int))), AV.int IntKind.i64 (clamp (clamp 8)), AV.int IntKind.i64 2] = AV.agg [AV.w64 (awW &&& mkW 8 &&& mkW (clamp 8)), AV.w64 ((0 : BitVec 64) &&& mkW ((8 : Int) - (64 : Int)) &&& mkW (clamp 8 - (64 : Int))), AV.w64 (mkW (clamp 8)), AV.w64 (mkW (clamp 8 - (64 : Int))), AV.int IntKind.i64 (clamp (clamp 8)), AV.int IntKind.i64 2]) ∧ (([] : Hp) = [] ∧ AV.agg [AV.w64 (BitVec.ofInt 64 720857415355990016 &&& mkW 16), AV.w64 (BitVec.ofInt 64 0 &&& mkW ((16 : Int) - (64 : Int))), AV.int IntKind.i64 (clamp 16)] = AV.agg [AV.w64 (awW &&& mkW 16), AV.w64 ((0 : BitVec 64) &&& mkW ((16 : Int) - (64 : Int))), AV.int IntKind.i64 (clamp 16)]) ∧ (([] : Hp) = [] ∧ AV.agg [AV.w64 (awW &&& mkW 16 &&& mkW (clamp 16)), AV.w64 ((0 : BitVec 64) &&& mkW ((16 : Int) - (64 : Int)) &&& mkW (clamp 16 - (64 : Int))), AV.w64 (mkW (clamp 16)), AV.w64 (mkW (clamp 16 - (64 : Int))), AV.int IntKind.i64 (clamp (clamp 16)), AV.int IntKind.i64 3] = AV.agg [AV.w64 (awW &&& mkW 16 &&& mkW (clamp 16)), AV.w64 ((0 : BitVec 64) &&& mkW ((16 : Int) - (64 : Int)) &&& mkW (clamp 16 - (64 : Int))), AV.w64 (mkW (clamp 16)), AV.w64 (mkW (clamp 16 - (64 : Int))), AV.int IntKind.i64 (clamp (clamp 16)), AV.int IntKind.i64 3]) ∧ ((∃ (_ : Unit), awake11_run_cut0 = awake11_run_cut0 ∧ True) ∧ ∃ (_ : Unit), awake11_run_cut0 = awake11_run_cut0 ∧ True) ∧ ((∃ (_ : Unit), awake11_run_cut0 = awake11_run_cut0 ∧ True) ∧ ∃ (_ : Unit), awake11_run_cut0 = awake11_run_cut0 ∧ True) ∧ (∃ (_ : Unit), awake11_run_cut0 = awake11_run_cut0 ∧ True) ∧ ∃ (_ : Unit), awake11_run_cut0 = awake11_run_cut0 ∧ True) ∧ ∀ (_ : Unit), True → [AV.agg [AV.w64 (awW &&& mkW 8 &&& mkW (clamp 8)), AV.w64 ((0 : BitVec 64) &&& mkW ((8 : Int) - (64 : Int)) &&& mkW (clamp 8 - (64 : Int))), AV.w64 (mkW (clamp 8)), AV.w64 (mkW (clamp 8 - (64 : Int))), AV.int IntKind.i64 (clamp (clamp 8)), AV.int IntKind.i64 1]] = [AV.agg [AV.w64 (awW &&& mkW 8 &&& mkW (clamp 8)), AV.w64 ((0 : BitVec 64) &&& mkW ((8 : Int) - (64 : Int)) &&& mkW (clamp 8 - (64 : Int))), AV.w64 (mkW (clamp 8)), AV.w64 (mkW (clamp 8 - (64 : Int))), AV.int IntKind.i64 (clamp (clamp 8)), AV.int IntKind.i64 1]] ∧ List.length (deE [AV.agg [AV.w64 (awW &&& mkW 8 &&& mkW (clamp 8)), AV.w64 ((0 : BitVec 64) &&& mkW ((8 : Int) - (64 : Int)) &&& mkW (clamp 8 - (64 : Int))), AV.w64 (mkW (clamp 8)), AV.w64 (mkW (clamp 8 - (64 : Int))), AV.int IntKind.i64 (clamp (clamp 8)), AV.int IntKind.i64 1]]) ≤ (1000000 : Nat) ∧ [AV.agg [AV.w64 (awW &&& mkW 8 &&& mkW (clamp 8)), AV.w64 ((0 : BitVec 64) &&& mkW ((8 : Int) - (64 : Int)) &&& mkW (clamp 8 - (64 : Int))), AV.w64 (mkW (clamp 8)), AV.w64 (mkW (clamp 8 - (64 : Int))), AV.int IntKind.i64 (clamp (clamp 8)), AV.int IntKind.i64 2], AV.agg [AV.w64 (awW &&& mkW 16 &&& mkW (clamp 16)), AV.w64 ((0 : BitVec 64) &&& mkW ((16 : Int) - (64 : Int)) &&& mkW (clamp 16 - (64 : Int))), AV.w64 (mkW (clamp 16)), AV.w64 (mkW (clamp 16 - (64 : Int))), AV.int IntKind.i64 (clamp (clamp 16)), AV.int IntKind.i64 3]] = [AV.agg [AV.w64 (awW &&& mkW 8 &&& mkW (clamp 8)), AV.w64 ((0 : BitVec 64) &&& mkW ((8 : Int) - (64 : Int)) &&& mkW (clamp 8 - (64 : Int))), AV.w64 (mkW (clamp 8)), AV.w64 (mkW (clamp 8 - (64 : Int))), AV.int IntKind.i64 (clamp (clamp 8)), AV.int IntKind.i64 2], AV.agg [AV.w64 (awW &&& mkW 16 &&& mkW (clamp 16)), AV.w64 ((0 : BitVec 64) &&& mkW ((16 : Int) - (64 : Int)) &&& mkW (clamp 16 - (64 : Int))), AV.w64 (mkW (clamp 16)), AV.w64 (mkW (clamp 16 - (64 : Int))), AV.int IntKind.i64 (clamp (clamp 16)), AV.int IntKind.i64 3]] ∧ List.length (deE [AV.agg [AV.w64 (awW &&& mkW 8 &&& mkW (clamp 8)), AV.w64 ((0 : BitVec 64) &&& mkW ((8 : Int) - (64 : Int)) &&& mkW (clamp 8 - (64 : Int))), AV.w64 (mkW (clamp 8)), AV.w64 (mkW (clamp 8 - (64 : Int))), AV.int IntKind.i64 (clamp (clamp 8)), AV.int IntKind.i64 2], AV.agg [AV.w64 (awW &&& mkW 16 &&& mkW (clamp 16)), AV.w64 ((0 : BitVec 64) &&& mkW ((16 : Int) - (64 : Int)) &&& mkW (clamp 16 - (64 : Int))), AV.w64 (mkW (clamp 16)), AV.w64 (mkW (clamp 16 - (64 : Int))), AV.int IntKind.i64 (clamp (clamp 16)), AV.int IntKind.i64 3]]) ≤ (1000000 : Nat) ∧ ([AV.agg [AV.int IntKind.i64 0, AV.w64 (awW &&& mkW 16 &&& mkW (clamp 16)), AV.w64 ((0 : BitVec 64) &&& mkW ((16 : Int) - (64 : Int)) &&& mkW (clamp 16 - (64 : Int))), AV.w64 (mkW (clamp 16)), AV.w64 (mkW (clamp 16 - (64 : Int))), AV.int IntKind.i64 (clamp (clamp 16)), AV.int IntKind.i64 3], AV.agg [AV.int IntKind.i64 1, AV.w64 (awW &&& mkW 8 &&& mkW (clamp 8)), AV.w64 ((0 : BitVec 64) &&& mkW ((8 : Int) - (64 : Int)) &&& mkW (clamp 8 - (64 : Int))), AV.w64 (mkW (clamp 8)), AV.w64 (mkW (clamp 8 - (64 : Int))), AV.int IntKind.i64 (clamp (clamp 8)), AV.int IntKind.i64 2]] = [AV.agg [AV.int IntKind.i64 0, AV.w64 (awW &&& mkW 16 &&& mkW (clamp 16)), AV.w64 ((0 : BitVec 64) &&& mkW ((16 : Int) - (64 : Int)) &&& mkW (clamp 16 - (64 : Int))), AV.w64 (mkW (clamp 16)), AV.w64 (mkW (clamp 16 - (64 : Int))), AV.int IntKind.i64 (clamp (clamp 16)), AV.int IntKind.i64 3], AV.agg [AV.int IntKind.i64 1, AV.w64 (awW &&& mkW 8 &&& mkW (clamp 8)), AV.w64 ((0 : BitVec 64) &&& mkW ((8 : Int) - (64 : Int)) &&& mkW (clamp 8 - (64 : Int))), AV.w64 (mkW (clamp 8)), AV.w64 (mkW (clamp 8 - (64 : Int))), AV.int IntKind.i64 (clamp (clamp 8)), AV.int IntKind.i64 2]] ∧ List.length [AV.agg [AV.int IntKind.i64 0, AV.w64 (awW &&& mkW 16 &&& mkW (clamp 16)), AV.w64 ((0 : BitVec 64) &&& mkW ((16 : Int) - (64 : Int)) &&& mkW (clamp 16 - (64 : Int))), AV.w64 (mkW (clamp 16)), AV.w64 (mkW (clamp 16 - (64 : Int))), AV.int IntKind.i64 (clamp (clamp 16)), AV.int IntKind.i64 3], AV.agg [AV.int IntKind.i64 1, AV.w64 (awW &&& mkW 8 &&& mkW (clamp 8)), AV.w64 ((0 : BitVec 64) &&& mkW ((8 : Int) - (64 : Int)) &&& mkW (clamp 8 - (64 : Int))), AV.w64 (mkW (clamp 8)), AV.w64 (mkW (clamp 8 - (64 : Int))), AV.int IntKind.i64 (clamp (clamp 8)), AV.int IntKind.i64 2]] = List.length [AV.agg [AV.int IntKind.i64 0, AV.w64 (awW &&& mkW 16 &&& mkW (clamp 16)), AV.w64 ((0 : BitVec 64) &&& mkW ((16 : Int) - (64 : Int)) &&& mkW (clamp 16 - (64 : Int))), AV.w64 (mkW (clamp 16)), AV.w64 (mkW (clamp 16 - (64 : Int))), AV.int IntKind.i64 (clamp (clamp 16)), AV.int IntKind.i64 3], AV.agg [AV.int IntKind.i64 1, AV.w64 (awW &&& mkW 8 &&& mkW (clamp 8)), AV.w64 ((0 : BitVec 64) &&& mkW ((8 : Int) - (64 : Int)) &&& mkW (clamp 8 - (64 : Int))), AV.w64 (mkW (clamp 8)), AV.w64 (mkW (clamp 8 - (64 : Int))), AV.int IntKind.i64 (clamp (clamp 8)), AV.int IntKind.i64 2]]) ∧ ((↑(List.length [AV.agg [AV.int IntKind.i64 0, AV.w64 (awW &&& mkW 16 &&& mkW (clamp 16)), AV.w64 ((0 : BitVec 64) &&& mkW ((16 : Int) - (64 : Int)) &&& mkW (clamp 16 - (64 : Int))), AV.w64 (mkW (clamp 16)), AV.w64 (mkW (clamp 16 - (64 : Int))), AV.int IntKind.i64 (clamp (clamp 16)), AV.int IntKind.i64 3], AV.agg [AV.int IntKind.i64 1, AV.w64 (awW &&& mkW 8 &&& mkW (clamp 8)), AV.w64 ((0 : BitVec 64) &&& mkW ((8 : Int) - (64 : Int)) &&& mkW (clamp 8 - (64 : Int))), AV.w64 (mkW (clamp 8)), AV.w64 (mkW (clamp 8 - (64 : Int))), AV.int IntKind.i64 (clamp (clamp 8)), AV.int IntKind.i64 2]]) : Int) == (2 : Int)) = true ∧ ((0 : Int) ≤ (0 : Int) ∧ (0 : Int) < (↑(List.length [AV.agg [AV.int IntKind.i64 0, AV.w64 (awW &&& mkW 16 &&& mkW (clamp 16)), AV.w64 ((0 : BitVec 64) &&& mkW ((16 : Int) - (64 : Int)) &&& mkW (clamp 16 - (64 : Int))), AV.w64 (mkW (clamp 16)), AV.w64 (mkW (clamp 16 - (64 : Int))), AV.int IntKind.i64 (clamp (clamp 16)), AV.int IntKind.i64 3], AV.agg [AV.int IntKind.i64 1, AV.w64 (awW &&& mkW 8 &&& mkW (clamp 8)), AV.w64 ((0 : BitVec 64) &&& mkW ((8 : Int) - (64 : Int)) &&& mkW (clamp 8 - (64 : Int))), AV.w64 (mkW (clamp 8)), AV.w64 (mkW (clamp 8 - (64 : Int))), AV.int IntKind.i64 (clamp (clamp 8)), AV.int IntKind.i64 2]]) : Int)) ∧ Blk.read Proofs.Try.prog (Blk.mk true (59 : TypeId) 7 true [AV.agg [AV.int IntKind.i64 0, AV.w64 (awW &&& mkW 16 &&& mkW (clamp 16)), AV.w64 ((0 : BitVec 64) &&& mkW ((16 : Int) - (64 : Int)) &&& mkW (clamp 16 - (64 : Int))), AV.w64 (mkW (clamp 16)), AV.w64 (mkW (clamp 16 - (64 : Int))), AV.int IntKind.i64 (clamp (clamp 16)), AV.int IntKind.i64 3], AV.agg [AV.int IntKind.i64 1, AV.w64 (awW &&& mkW 8 &&& mkW (clamp 8)), AV.w64 ((0 : BitVec 64) &&& mkW ((8 : Int) - (64 : Int)) &&& mkW (clamp 8 - (64 : Int))), AV.w64 (mkW (clamp 8)), AV.w64 (mkW (clamp 8 - (64 : Int))), AV.int IntKind.i64 (clamp (clamp 8)), AV.int IntKind.i64 2]]) 59 ((0 : Nat) + Int.toNat 0) 0 = some (AV.agg [AV.int IntKind.i64 0, AV.w64 (awW &&& mkW 16 &&& mkW (clamp 16)), AV.w64 ((0 : BitVec 64) &&& mkW ((16 : Int) - (64 : Int)) &&& mkW (clamp 16 - (64 : Int))), AV.w64 (mkW (clamp 16)), AV.w64 (mkW (clamp 16 - (64 : Int))), AV.int IntKind.i64 (clamp (clamp 16)), AV.int IntKind.i64 3]) ∧ ((0 : Int) == (0 : Int) && (awW &&& mkW 16 &&& mkW (clamp 16) == awW &&& mkW 16 &&& mkW (clamp 16) && (0 : BitVec 64) &&& mkW ((16 : Int) - (64 : Int)) &&& mkW (clamp 16 - (64 : Int)) == (0 : BitVec 64) &&& mkW ((16 : Int) - (64 : Int)) &&& mkW (clamp 16 - (64 : Int)) && (mkW (clamp 16) == mkW (clamp 16) && mkW (clamp 16 - (64 : Int)) == mkW (clamp 16 - (64 : Int))) && (clamp (clamp 16) == clamp (clamp 16) && true))) = true ∧ ((0 : Int) ≤ (1 : Int) ∧ (1 : Int) < (↑(List.length [AV.agg [AV.int IntKind.i64 0, AV.w64 (awW &&& mkW 16 &&& mkW (clamp 16)), AV.w64 ((0 : BitVec 64) &&& mkW ((16 : Int) - (64 : Int)) &&& mkW (clamp 16 - (64 : Int))), AV.w64 (mkW (clamp 16)), AV.w64 (mkW (clamp 16 - (64 : Int))), AV.int IntKind.i64 (clamp (clamp 16)), AV.int IntKind.i64 3], AV.agg [AV.int IntKind.i64 1, AV.w64 (awW &&& mkW 8 &&& mkW (clamp 8)), AV.w64 ((0 : BitVec 64) &&& mkW ((8 : Int) - (64 : Int)) &&& mkW (clamp 8 - (64 : Int))), AV.w64 (mkW (clamp 8)), AV.w64 (mkW (clamp 8 - (64 : Int))), AV.int IntKind.i64 (clamp (clamp 8)), AV.int IntKind.i64 2]]) : Int)) ∧ Blk.read Proofs.Try.prog (Blk.mk true (59 : TypeId) 7 true [AV.agg [AV.int IntKind.i64 0, AV.w64 (awW &&& mkW 16 &&& mkW (clamp 16)), AV.w64 ((0 : BitVec 64) &&& mkW ((16 : Int) - (64 : Int)) &&& mkW (clamp 16 - (64 : Int))), AV.w64 (mkW (clamp 16)), AV.w64 (mkW (clamp 16 - (64 : Int))), AV.int IntKind.i64 (clamp (clamp 16)), AV.int IntKind.i64 3], AV.agg [AV.int IntKind.i64 1, AV.w64 (awW &&& mkW 8 &&& mkW (clamp 8)), AV.w64 ((0 : BitVec 64) &&& mkW ((8 : Int) - (64 : Int)) &&& mkW (clamp 8 - (64 : Int))), AV.w64 (mkW (clamp 8)), AV.w64 (mkW (clamp 8 - (64 : Int))), AV.int IntKind.i64 (clamp (clamp 8)), AV.int IntKind.i64 2]]) 59 ((0 : Nat) + Int.toNat 1) 0 = some (AV.agg [AV.int IntKind.i64 1, AV.w64 (awW &&& mkW 8 &&& mkW (clamp 8)), AV.w64 ((0 : BitVec 64) &&& mkW ((8 : Int) - (64 : Int)) &&& mkW (clamp 8 - (64 : Int))), AV.w64 (mkW (clamp 8)), AV.w64 (mkW (clamp 8 - (64 : Int))), AV.int IntKind.i64 (clamp (clamp 8)), AV.int IntKind.i64 2]) ∧ ((1 : Int) == (1 : Int) && (awW &&& mkW 8 &&& mkW (clamp 8) == awW &&& mkW 8 &&& mkW (clamp 8) && (0 : BitVec 64) &&& mkW ((8 : Int) - (64 : Int)) &&& mkW (clamp 8 - (64 : Int)) == (0 : BitVec 64) &&& mkW ((8 : Int) - (64 : Int)) &&& mkW (clamp 8 - (64 : Int)) && (mkW (clamp 8) == mkW (clamp 8) && mkW (clamp 8 - (64 : Int)) == mkW (clamp 8 - (64 : Int))) && (clamp (clamp 8) == clamp (clamp 8) && true))) = true ∧ ((0 : Int) ≤ (0 : Int) ∧ (0 : Int) < (↑(List.length [AV.agg [AV.int IntKind.i64 0, AV.w64 (awW &&& mkW 16 &&& mkW (clamp 16)), AV.w64 ((0 : BitVec 64) &&& mkW ((16 : Int) - (64 : Int)) &&& mkW (clamp 16 - (64 : Int))), AV.w64 (mkW (clamp 16)), AV.w64 (mkW (clamp 16 - (64 : Int))), AV.int IntKind.i64 (clamp (clamp 16)), AV.int IntKind.i64 3], AV.agg [AV.int IntKind.i64 1, AV.w64 (awW &&& mkW 8 &&& mkW (clamp 8)), AV.w64 ((0 : BitVec 64) &&& mkW ((8 : Int) - (64 : Int)) &&& mkW (clamp 8 - (64 : Int))), AV.w64 (mkW (clamp 8)), AV.w64 (mkW (clamp 8 - (64 : Int))), AV.int IntKind.i64 (clamp (clamp 8)), AV.int IntKind.i64 2]]) : Int)) ∧ Blk.read Proofs.Try.prog (Blk.mk true (59 : TypeId) 7 true [AV.agg [AV.int IntKind.i64 0, AV.w64 (awW &&& mkW 16 &&& mkW (clamp 16)), AV.w64 ((0 : BitVec 64) &&& mkW ((16 : Int) - (64 : Int)) &&& mkW (clamp 16 - (64 : Int))), AV.w64 (mkW (clamp 16)), AV.w64 (mkW (clamp 16 - (64 : Int))), AV.int IntKind.i64 (clamp (clamp 16)), AV.int IntKind.i64 3], AV.agg [AV.int IntKind.i64 1, AV.w64 (awW &&& mkW 8 &&& mkW (clamp 8)), AV.w64 ((0 : BitVec 64) &&& mkW ((8 : Int) - (64 : Int)) &&& mkW (clamp 8 - (64 : Int))), AV.w64 (mkW (clamp 8)), AV.w64 (mkW (clamp 8 - (64 : Int))), AV.int IntKind.i64 (clamp (clamp 8)), AV.int IntKind.i64 2]]) 59 ((0 : Nat) + Int.toNat 0) 0 = some (AV.agg [AV.int IntKind.i64 0, AV.w64 (awW &&& mkW 16 &&& mkW (clamp 16)), AV.w64 ((0 : BitVec 64) &&& mkW ((16 : Int) - (64 : Int)) &&& mkW (clamp 16 - (64 : Int))), AV.w64 (mkW (clamp 16)), AV.w64 (mkW (clamp 16 - (64 : Int))), AV.int IntKind.i64 (clamp (clamp 16)), AV.int IntKind.i64 3]) ∧ [AV.agg [AV.w64 (awW &&& mkW 8 &&& mkW (clamp 8)), AV.w64 ((0 : BitVec 64) &&& mkW ((8 : Int) - (64 : Int)) &&& mkW (clamp 8 - (64 : Int))), AV.w64 (mkW (clamp 8)), AV.w64 (mkW (clamp 8 - (64 : Int))), AV.int IntKind.i64 (clamp (clamp 8)), AV.int IntKind.i64 1]] = [AV.agg [AV.w64 (awW &&& mkW 8 &&& mkW (clamp 8)), AV.w64 ((0 : BitVec 64) &&& mkW ((8 : Int) - (64 : Int)) &&& mkW (clamp 8 - (64 : Int))), AV.w64 (mkW (clamp 8)), AV.w64 (mkW (clamp 8 - (64 : Int))), AV.int IntKind.i64 (clamp (clamp 8)), AV.int IntKind.i64 1]] ∧ List.length (deE [AV.agg [AV.w64 (awW &&& mkW 8 &&& mkW (clamp 8)), AV.w64 ((0 : BitVec 64) &&& mkW ((8 : Int) - (64 : Int)) &&& mkW (clamp 8 - (64 : Int))), AV.w64 (mkW (clamp 8)), AV.w64 (mkW (clamp 8 - (64 : Int))), AV.int IntKind.i64 (clamp (clamp 8)), AV.int IntKind.i64 1]]) ≤ (1000000 : Nat) ∧ ([AV.agg [AV.w64 (awW &&& mkW 8 &&& mkW (clamp 8)), AV.w64 ((0 : BitVec 64) &&& mkW ((8 : Int) - (64 : Int)) &&& mkW (clamp 8 - (64 : Int))), AV.w64 (mkW (clamp 8)), AV.w64 (mkW (clamp 8 - (64 : Int))), AV.int IntKind.i64 (clamp (clamp 8)), AV.int IntKind.i64 1], AV.agg [AV.w64 (awW &&& mkW 16 &&& mkW (clamp 16)), AV.w64 ((0 : BitVec 64) &&& mkW ((16 : Int) - (64 : Int)) &&& mkW (clamp 16 - (64 : Int))), AV.w64 (mkW (clamp 16)), AV.w64 (mkW (clamp 16 - (64 : Int))), AV.int IntKind.i64 (clamp (clamp 16)), AV.int IntKind.i64 3]] = [AV.agg [AV.w64 (awW &&& mkW 8 &&& mkW (clamp 8)), AV.w64 ((0 : BitVec 64) &&& mkW ((8 : Int) - (64 : Int)) &&& mkW (clamp 8 - (64 : Int))), AV.w64 (mkW (clamp 8)), AV.w64 (mkW (clamp 8 - (64 : Int))), AV.int IntKind.i64 (clamp (clamp 8)), AV.int IntKind.i64 1], AV.agg [AV.w64 (awW &&& mkW 16 &&& mkW (clamp 16)), AV.w64 ((0 : BitVec 64) &&& mkW ((16 : Int) - (64 : Int)) &&& mkW (clamp 16 - (64 : Int))), AV.w64 (mkW (clamp 16)), AV.w64 (mkW (clamp 16 - (64 : Int))), AV.int IntKind.i64 (clamp (clamp 16)), AV.int IntKind.i64 3]] ∧ List.length [AV.agg [AV.w64 (awW &&& mkW 8 &&& mkW (clamp 8)), AV.w64 ((0 : BitVec 64) &&& mkW ((8 : Int) - (64 : Int)) &&& mkW (clamp 8 - (64 : Int))), AV.w64 (mkW (clamp 8)), AV.w64 (mkW (clamp 8 - (64 : Int))), AV.int IntKind.i64 (clamp (clamp 8)), AV.int IntKind.i64 1], AV.agg [AV.w64 (awW &&& mkW 16 &&& mkW (clamp 16)), AV.w64 ((0 : BitVec 64) &&& mkW ((16 : Int) - (64 : Int)) &&& mkW (clamp 16 - (64 : Int))), AV.w64 (mkW (clamp 16)), AV.w64 (mkW (clamp 16 - (64 : Int))), AV.int IntKind.i64 (clamp (clamp 16)), AV.int IntKind.i64 3]] = List.length [AV.agg [AV.w64 (awW &&& mkW 8 &&& mkW (clamp 8)), AV.w64 ((0 : BitVec 64) &&& mkW ((8 : Int) - (64 : Int)) &&& mkW (clamp 8 - (64 : Int))), AV.w64 (mkW (clamp 8)), AV.w64 (mkW (clamp 8 - (64 : Int))), AV.int IntKind.i64 (clamp (clamp 8)), AV.int IntKind.i64 1], AV.agg [AV.w64 (awW &&& mkW 16 &&& mkW (clamp 16)), AV.w64 ((0 : BitVec 64) &&& mkW ((16 : Int) - (64 : Int)) &&& mkW (clamp 16 - (64 : Int))), AV.w64 (mkW (clamp 16)), AV.w64 (mkW (clamp 16 - (64 : Int))), AV.int IntKind.i64 (clamp (clamp 16)), AV.int IntKind.i64 3]]) ∧ ((↑(List.length [AV.agg [AV.w64 (awW &&& mkW 8 &&& mkW (clamp 8)), AV.w64 ((0 : BitVec 64) &&& mkW ((8 : Int) - (64 : Int)) &&& mkW (clamp 8 - (64 : Int))), AV.w64 (mkW (clamp 8)), AV.w64 (mkW (clamp 8 - (64 : Int))), AV.int IntKind.i64 (clamp (clamp 8)), AV.int IntKind.i64 1], AV.agg [AV.w64 (awW &&& mkW 16 &&& mkW (clamp 16)), AV.w64 ((0 : BitVec 64) &&& mkW ((16 : Int) - (64 : Int)) &&& mkW (clamp 16 - (64 : Int))), AV.w64 (mkW (clamp 16)), AV.w64 (mkW (clamp 16 - (64 : Int))), AV.int IntKind.i64 (clamp (clamp 16)), AV.int IntKind.i64 3]]) : Int) == (2 : Int)) = true ∧ (0 : Nat) + List.length [AV.agg [AV.int IntKind.i64 0, AV.w64 (awW &&& mkW 16 &&& mkW (clamp 16)), AV.w64 ((0 : BitVec 64) &&& mkW ((16 : Int) - (64 : Int)) &&& mkW (clamp 16 - (64 : Int))), AV.w64 (mkW (clamp 16)), AV.w64 (mkW (clamp 16 - (64 : Int))), AV.int IntKind.i64 (clamp (clamp 16)), AV.int IntKind.i64 3], AV.agg [AV.int IntKind.i64 1, AV.w64 (awW &&& mkW 8 &&& mkW (clamp 8)), AV.w64 ((0 : BitVec 64) &&& mkW ((8 : Int) - (64 : Int)) &&& mkW (clamp 8 - (64 : Int))), AV.w64 (mkW (clamp 8)), AV.w64 (mkW (clamp 8 - (64 : Int))), AV.int IntKind.i64 (clamp (clamp 8)), AV.int IntKind.i64 2]] ≤ List.length [AV.agg [AV.int IntKind.i64 0, AV.w64 (awW &&& mkW 16 &&& mkW (clamp 16)), AV.w64 ((0 : BitVec 64) &&& mkW ((16 : Int) - (64 : Int)) &&& mkW (clamp 16 - (64 : Int))), AV.w64 (mkW (clamp 16)), AV.w64 (mkW (clamp 16 - (64 : Int))), AV.int IntKind.i64 (clamp (clamp 16)), AV.int IntKind.i64 3], AV.agg [AV.int IntKind.i64 1, AV.w64 (awW &&& mkW 8 &&& mkW (clamp 8)), AV.w64 ((0 : BitVec 64) &&& mkW ((8 : Int) - (64 : Int)) &&& mkW (clamp 8 - (64 : Int))), AV.w64 (mkW (clamp 8)), AV.w64 (mkW (clamp 8 - (64 : Int))), AV.int IntKind.i64 (clamp (clamp 8)), AV.int IntKind.i64 2]] ∧ [AV.agg [AV.int IntKind.i64 0, AV.w64 (awW &&& mkW 16 &&& mkW (clamp 16)), AV.w64 ((0 : BitVec 64) &&& mkW ((16 : Int) - (64 : Int)) &&& mkW (clamp 16 - (64 : Int))), AV.w64 (mkW (clamp 16)), AV.w64 (mkW (clamp 16 - (64 : Int))), AV.int IntKind.i64 (clamp (clamp 16)), AV.int IntKind.i64 3], AV.agg [AV.int IntKind.i64 1, AV.w64 (awW &&& mkW 8 &&& mkW (clamp 8)), AV.w64 ((0 : BitVec 64) &&& mkW ((8 : Int) - (64 : Int)) &&& mkW (clamp 8 - (64 : Int))), AV.w64 (mkW (clamp 8)), AV.w64 (mkW (clamp 8 - (64 : Int))), AV.int IntKind.i64 (clamp (clamp 8)), AV.int IntKind.i64 2]] = [AV.agg [AV.int IntKind.i64 0, AV.w64 (awW &&& mkW 16 &&& mkW (clamp 16)), AV.w64 ((0 : BitVec 64) &&& mkW ((16 : Int) - (64 : Int)) &&& mkW (clamp 16 - (64 : Int))), AV.w64 (mkW (clamp 16)), AV.w64 (mkW (clamp 16 - (64 : Int))), AV.int IntKind.i64 (clamp (clamp 16)), AV.int IntKind.i64 3], AV.agg [AV.int IntKind.i64 1, AV.w64 (awW &&& mkW 8 &&& mkW (clamp 8)), AV.w64 ((0 : BitVec 64) &&& mkW ((8 : Int) - (64 : Int)) &&& mkW (clamp 8 - (64 : Int))), AV.w64 (mkW (clamp 8)), AV.w64 (mkW (clamp 8 - (64 : Int))), AV.int IntKind.i64 (clamp (clamp 8)), AV.int IntKind.i64 2]] ∧ List.length (deSp [AV.agg [AV.int IntKind.i64 0, AV.w64 (awW &&& mkW 16 &&& mkW (clamp 16)), AV.w64 ((0 : BitVec 64) &&& mkW ((16 : Int) - (64 : Int)) &&& mkW (clamp 16 - (64 : Int))), AV.w64 (mkW (clamp 16)), AV.w64 (mkW (clamp 16 - (64 : Int))), AV.int IntKind.i64 (clamp (clamp 16)), AV.int IntKind.i64 3], AV.agg [AV.int IntKind.i64 1, AV.w64 (awW &&& mkW 8 &&& mkW (clamp 8)), AV.w64 ((0 : BitVec 64) &&& mkW ((8 : Int) - (64 : Int)) &&& mkW (clamp 8 - (64 : Int))), AV.w64 (mkW (clamp 8)), AV.w64 (mkW (clamp 8 - (64 : Int))), AV.int IntKind.i64 (clamp (clamp 8)), AV.int IntKind.i64 2]]) ≤ (1000000 : Nat) ∧ AV.bool ((↑(ctE 0 (deSp [AV.agg [AV.int IntKind.i64 0, AV.w64 (awW &&& mkW 16 &&& mkW (clamp 16)), AV.w64 ((0 : BitVec 64) &&& mkW ((16 : Int) - (64 : Int)) &&& mkW (clamp 16 - (64 : Int))), AV.w64 (mkW (clamp 16)), AV.w64 (mkW (clamp 16 - (64 : Int))), AV.int IntKind.i64 (clamp (clamp 16)), AV.int IntKind.i64 3], AV.agg [AV.int IntKind.i64 1, AV.w64 (awW &&& mkW 8 &&& mkW (clamp 8)), AV.w64 ((0 : BitVec 64) &&& mkW ((8 : Int) - (64 : Int)) &&& mkW (clamp 8 - (64 : Int))), AV.w64 (mkW (clamp 8)), AV.w64 (mkW (clamp 8 - (64 : Int))), AV.int IntKind.i64 (clamp (clamp 8)), AV.int IntKind.i64 2]])) : Int) == (1 : Int) && ((↑(ctE 1 (deSp [AV.agg [AV.int IntKind.i64 0, AV.w64 (awW &&& mkW 16 &&& mkW (clamp 16)), AV.w64 ((0 : BitVec 64) &&& mkW ((16 : Int) - (64 : Int)) &&& mkW (clamp 16 - (64 : Int))), AV.w64 (mkW (clamp 16)), AV.w64 (mkW (clamp 16 - (64 : Int))), AV.int IntKind.i64 (clamp (clamp 16)), AV.int IntKind.i64 3], AV.agg [AV.int IntKind.i64 1, AV.w64 (awW &&& mkW 8 &&& mkW (clamp 8)), AV.w64 ((0 : BitVec 64) &&& mkW ((8 : Int) - (64 : Int)) &&& mkW (clamp 8 - (64 : Int))), AV.w64 (mkW (clamp 8)), AV.w64 (mkW (clamp 8 - (64 : Int))), AV.int IntKind.i64 (clamp (clamp 8)), AV.int IntKind.i64 2]])) : Int) == (1 : Int) && (↑(ctE 2 (deSp [AV.agg [AV.int IntKind.i64 0, AV.w64 (awW &&& mkW 16 &&& mkW (clamp 16)), AV.w64 ((0 : BitVec 64) &&& mkW ((16 : Int) - (64 : Int)) &&& mkW (clamp 16 - (64 : Int))), AV.w64 (mkW (clamp 16)), AV.w64 (mkW (clamp 16 - (64 : Int))), AV.int IntKind.i64 (clamp (clamp 16)), AV.int IntKind.i64 3], AV.agg [AV.int IntKind.i64 1, AV.w64 (awW &&& mkW 8 &&& mkW (clamp 8)), AV.w64 ((0 : BitVec 64) &&& mkW ((8 : Int) - (64 : Int)) &&& mkW (clamp 8 - (64 : Int))), AV.w64 (mkW (clamp 8)), AV.w64 (mkW (clamp 8 - (64 : Int))), AV.int IntKind.i64 (clamp (clamp 8)), AV.int IntKind.i64 2]])) : Int) == (0 : Int))) = AV.bool true) := by kernel_rfl

theorem awake11_law : ∃ hs, run awake11Cs Try.prog 23 [] [] hs (comesTo (.bool true)) := by
  refine ⟨(aw11H awake11_run_cut0), ?_⟩
  rw [awake11_run ()]
  repeat' first
    | apply And.intro
    | intro _
  all_goals first
    | kernel_rfl
    | exact ⟨(), rfl, trivial⟩
    | exact Nat.le_of_ble_eq_true (by kernel_rfl)
    | decide

theorem awake11_of (h : ∀ e ∈ awake11Cs, SpecOK Try.prog e.1 e.2) : SpecOK Try.prog 23 awakeSpec :=
  awake_ex (run_ok (l := awake11Cs) h mixed noNG) awake11_law

end Go.Proofs.Ytnjbgbdcbejciaa.L1
end

section
/-
  Layer 11: all that the laws call is as said.
-/
namespace Go.Proofs.Ytnjbgbdcbejciaa.L1
open Go.Sx Go.Sx.M

theorem awake11Cs_ok : ∀ e ∈ awake11Cs, SpecOK Try.prog e.1 e.2 := by
  intro e he
  simp only [awake11Cs, List.mem_cons, List.not_mem_nil, or_false] at he
  rcases he with rfl | rfl | rfl | rfl | rfl
  · exact pmake_ok
  · exact eof_ok
  · exact gsteps11_ok
  · exact gdo11_ok
  · exact gcount11_ok

theorem told11Cs_ok : ∀ e ∈ told11Cs, SpecOK Try.prog e.1 e.2 := by
  intro e he
  simp only [told11Cs, List.mem_cons, List.not_mem_nil, or_false] at he
  rcases he with rfl | rfl | rfl | rfl
  · exact of5_ok
  · exact rtell_ok
  · exact gsteps11_ok
  · exact gdo11_ok

end Go.Proofs.Ytnjbgbdcbejciaa.L1
end

