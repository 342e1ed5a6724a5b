/-
  Texts in one: L9M L9A L9D.
-/
import Derived.Test.YtnjbgbdcbejciaaL6a

section
/-
  Layer 9: which routes of a table are kept: plain mathematics.
-/
namespace Go.Sx.M
open Go.Proofs.Ytnjbgbdcbejciaa.L1

/-- The nearest route that covers a prefix, of a table. -/
theorem cvrR_cases {w w' : Int} {l : List Ro} (h : TB w l) {p : Pf} (hp : riP w' p = true) : (cvrR l p = none ∧ ∀ x ∈ l, ovP x.p p = false) ∨ ∃ x, x ∈ l ∧ cvrR l p = some x ∧ ovP x.p p = true ∧ ∀ y ∈ l, ovP y.p p = true → y.p.len ≤ x.p.len := by
  unfold cvrR
  rcases bsR_tb (shorter_tb h p.len) p.a p.b with ⟨h1, h2⟩ | ⟨x, hx, h1, h2, h3⟩
  · refine .inl ⟨h1, fun x hx => ?_⟩
    cases e : ovP x.p p with
    | false => rfl
    | true =>
      obtain ⟨a, b⟩ := (ovP_short (h.rip hx) hp).1 e
      rw [h2 x (mem_short.2 ⟨hx, a⟩)] at b; cases b
  · obtain ⟨hx, hl⟩ := mem_short.1 hx
    refine .inr ⟨x, hx, h1, (ovP_short (h.rip hx) hp).2 ⟨hl, h2⟩, fun y hy ho => ?_⟩
    obtain ⟨a, b⟩ := (ovP_short (h.rip hy) hp).1 ho
    exact h3 y (mem_short.2 ⟨hy, a⟩) b

theorem cvr_same {w w' : Int} {k m : List Ro} (hk : TB w k) (hm : TB w m) {p : Pf} (hp : riP w' p = true) (h : ∀ x, ovP x.p p = true → (x ∈ k ↔ x ∈ m)) : cvrR k p = cvrR m p := by
  rcases cvrR_cases hk hp with ⟨h1, h2⟩ | ⟨x, hx, h1, h2, h3⟩
  · rw [h1]
    refine (cvrR_none hm hp fun j hj => ?_).symm
    cases e : ovP (at' m j).p p with
    | false => rfl
    | true =>
      have := h2 _ ((h _ e).2 (at_mem hj))
      rw [this] at e; cases e
  · rw [h1]
    exact (cvrR_max hm hp ((h _ h2).1 hx) h2 fun y hy ho => h3 y ((h _ ho).2 hy) ho).symm

/-- Says a route something else than the one that covers it? -/
def saysR (c : Option Ro) (x : Ro) : Bool := match c with | none => true | some c => !decide (c.act = x.act)

def kpS (k : List Ro) (x : Ro) : List Ro := if saysR (cvrR k x.p) x then k ++ [x] else k

/-- Those that are kept. -/
def kpR (l : List Ro) : List Ro := l.foldl kpS []

theorem kpR_snoc (l : List Ro) (x : Ro) : kpR (l ++ [x]) = kpS (kpR l) x := by
  unfold kpR
  rw [List.foldl_append]; rfl

theorem kp_fold : ∀ (l k : List Ro), ∃ r, l.foldl kpS k = k ++ r ∧ r.Sublist l
  | [], k => ⟨[], by simp, .slnil⟩
  | x :: l, k => by
    obtain ⟨r, h1, h2⟩ := kp_fold l (kpS k x)
    rw [List.foldl_cons, h1]
    unfold kpS
    split
    · exact ⟨x :: r, by simp, h2.cons_cons _⟩
    · exact ⟨r, rfl, h2.cons _⟩

theorem kpR_sub (l : List Ro) : (kpR l).Sublist l := by
  obtain ⟨r, h1, h2⟩ := kp_fold l []
  unfold kpR
  rw [h1]
  simpa using h2

theorem kpR_mem {l : List Ro} {x : Ro} (h : x ∈ kpR l) : x ∈ l := (kpR_sub l).subset h
theorem kpR_tb {w : Int} {l : List Ro} (h : TB w l) : TB w (kpR l) := h.sub (kpR_sub l)

theorem kpR_parts (l m : List Ro) : ∃ r, kpR (l ++ m) = kpR l ++ r ∧ r.Sublist m := by
  obtain ⟨r, h1, h2⟩ := kp_fold m (kpR l)
  refine ⟨r, ?_, h2⟩
  rw [← h1]
  unfold kpR
  rw [List.foldl_append]

/-- What is kept, by what is kept. -/
theorem mem_kp {w : Int} {l : List Ro} (h : TB w l) {x : Ro} : x ∈ kpR l ↔ x ∈ l ∧ saysR (cvrR (kpR l) x.p) x = true := by
  have key : ∀ x ∈ l, (x ∈ kpR l ↔ saysR (cvrR (kpR l) x.p) x = true) := by
    intro x hx
    obtain ⟨s, t, rfl⟩ := List.append_of_mem hx
    have hs : TB w s := h.sub (List.sublist_append_left _ _)
    have hsort := h.sorted
    rw [List.pairwise_append] at hsort
    obtain ⟨_, h2, h3⟩ := hsort
    obtain ⟨h4, _⟩ := List.pairwise_cons.1 h2
    have e : s ++ x :: t = (s ++ [x]) ++ t := by simp
    obtain ⟨r, e1, hr⟩ := kpR_parts (s ++ [x]) t
    rw [kpR_snoc, ← e] at e1
    have hxs : x ∉ kpR s := fun hm => by
      have := h3 x (kpR_mem hm) x List.mem_cons_self
      rw [cpP_self] at this; omega
    have hxr : x ∉ r := fun hm => by
      have := h4 x (hr.subset hm)
      rw [cpP_self] at this; omega
    have hcv : cvrR (kpR (s ++ x :: t)) x.p = cvrR (kpR s) x.p := by
      refine cvr_same (kpR_tb h) (kpR_tb hs) (h.rip hx) fun y ho => ?_
      rw [e1]
      constructor
      · intro hy
        rcases List.mem_append.1 hy with hy | hy
        · unfold kpS at hy
          split at hy
          · rcases List.mem_append.1 hy with hy | hy
            · exact hy
            · rw [List.mem_singleton] at hy
              subst hy
              have := (ovP_iff.1 ho).1
              exact absurd rfl this
          · exact hy
        · have hyt := hr.subset hy
          have h5 := h4 y hyt
          have hyl : y ∈ s ++ x :: t := List.mem_append_right _ (List.mem_cons_of_mem _ hyt)
          have := ovP_lt (h.rip hyl) (h.rip hx) ho
          have := cpP_trans this h5
          rw [cpP_self] at this; omega
      · intro hy
        refine List.mem_append_left _ ?_
        unfold kpS
        split
        · exact List.mem_append_left _ hy
        · exact hy
    rw [hcv, e1, List.mem_append]
    unfold kpS
    split
    · rename_i hsay
      rw [hsay]
      exact ⟨fun _ => rfl, fun _ => .inl (by simp)⟩
    · rename_i hsay
      exact ⟨fun hm => hm.elim (fun h => absurd h hxs) fun h => absurd h hxr, fun hm => absurd hm hsay⟩
  exact ⟨fun hx => ⟨kpR_mem hx, (key x (kpR_mem hx)).1 hx⟩, fun hx => (key x hx.1).2 hx.2⟩

/-- Two that match one address: the shorter one covers the other. -/
theorem ovP_both {w w' : Int} {p q : Pf} (hp : riP w p = true) (hq : riP w' q = true) {c d : BitVec 64} (h1 : mtP p c d = true) (h2 : mtP q c d = true) (hl : p.len < q.len) : ovP p q = true := by
  rw [ovP_short hp hq]
  refine ⟨hl, mtP_iff.2 fun i hi hil => ?_⟩
  rw [mtP_iff.1 h1 i hi hil, mtP_iff.1 h2 i hi (by omega)]

theorem ovP_match {w w' : Int} {p q : Pf} (hp : riP w p = true) (hq : riP w' q = true) {c d : BitVec 64} (h : ovP p q = true) (h2 : mtP q c d = true) : mtP p c d = true := by
  obtain ⟨hl, hm⟩ := (ovP_short hp hq).1 h
  refine mtP_iff.2 fun i hi hil => ?_
  rw [mtP_iff.1 hm i hi hil, mtP_iff.1 h2 i hi (by omega)]

/-- P9.2: the same is told. -/
theorem kpR_tell {w : Int} {l : List Ro} (h : TB w l) (c d : BitVec 64) : tlR (kpR l) c d = tlR l c d := by
  have hk := kpR_tb h
  unfold tlR
  rcases bsR_tb h c d with ⟨h1, h2⟩ | ⟨x, hx, h1, h2, h3⟩
  · rw [h1]
    rw [bsR_noneT hk fun j hj => h2 _ (kpR_mem (at_mem hj))]
  · rw [h1]
    by_cases hm : x ∈ kpR l
    · rw [bsR_max hk hm h2 fun y hy hmy => h3 y (kpR_mem hy) hmy]
    · have hs : saysR (cvrR (kpR l) x.p) x = false := by
        cases e : saysR (cvrR (kpR l) x.p) x with
        | false => rfl
        | true => exact absurd ((mem_kp h).2 ⟨hx, e⟩) hm
      rcases cvrR_cases hk (h.rip hx) with ⟨g1, _⟩ | ⟨y, hy, g1, g2, g3⟩
      · rw [g1] at hs; cases hs
      · rw [g1] at hs
        have hact : y.act = x.act := by
          unfold saysR at hs
          simpa using hs
        rw [bsR_max hk hy (ovP_match (hk.rip hy) (h.rip hx) g2 h2) fun z hz hmz => ?_]
        · exact hact
        · have hzl := h3 z (kpR_mem hz) hmz
          refine g3 z hz (ovP_both (hk.rip hz) (h.rip hx) hmz h2 ?_)
          rcases Int.lt_or_eq_of_le hzl with hlt | he
          · exact hlt
          · have := riP_eq (hk.rip hz) (h.rip hx) he hmz h2
            have := h.one (kpR_mem hz) hx this
            subst this
            exact absurd hz hm

/-- A prefix matches its own address. -/
theorem mtP_own (p : Pf) : mtP p p.a p.b = true := mtP_iff.2 fun _ _ _ => rfl

end Go.Sx.M
end

section
/-
  Layer 9: the contract of the document's Keep; of the law's Table.
-/
namespace Go.Proofs.Ytnjbgbdcbejciaa.L1
open Go.Sx Go.Sx.M

end Go.Proofs.Ytnjbgbdcbejciaa.L1
end

section
/-
  Layer 9: what the contracts of the program's calls say; the law's Table; what the document fixes of three routes.
-/
namespace Go.Proofs.Ytnjbgbdcbejciaa.L1
open Go.Sx Go.Sx.M

def gkeep9F : List Arg → (Res → Prop) → Prop
  | [.row r_l], R => r_l = (deR r_l).map roE ∧ tbR 128 (deR r_l) = true ∧ R (.vrow 73 4 ((kpR (deR r_l)).map roE))
  | _, _ => False

/-- The law's tables. -/
def tb9 (l : List Ro) : Bool := decide (l.length ≤ 24) && tbR 128 l

def table9F : List Arg → (Res → Prop) → Prop
  | [.row r_l], R => r_l = (deR r_l).map roE ∧ (deR r_l).length ≤ 9223372036854775807 ∧ R (.v (.bool (tb9 (deR r_l))))
  | _, _ => False

noncomputable def table9Cs : List (FuncId × Sx.Spec) := [(14, genSpec [pRo] of6F),
  (36, genSpec [none, pRefR] rrtableF)]

theorem table9_run (l : List Ro) (r : AV) : run table9Cs Try.prog 11 [.vsl 0 0 (l.map roE).length] [some ⟨false, (pRo.getD (0, 0)).1, (pRo.getD (0, 0)).2, true, (l.map roE)⟩] [.fork [] []] (yields (.v r)) =
    ((Decidable.decide ((↑(List.length (List.map roE l)) : Int) ≤ (24 : Int)) = true → (0 : Nat) + List.length (List.map roE l) ≤ List.length (List.map roE l) ∧ List.take (List.length (List.map roE l)) (List.drop 0 (List.map roE l)) = List.map roE (deR (List.take (List.length (List.map roE l)) (List.drop 0 (List.map roE l)))) ∧ List.length (deR (List.take (List.length (List.map roE l)) (List.drop 0 (List.map roE l)))) ≤ (1000000 : Nat) ∧ (0 : Nat) + List.length (List.map roE (deR (List.take (List.length (List.map roE l)) (List.drop 0 (List.map roE l))))) ≤ List.length (List.map roE (deR (List.take (List.length (List.map roE l)) (List.drop 0 (List.map roE l))))) ∧ List.take (List.length (List.map roE (deR (List.take (List.length (List.map roE l)) (List.drop 0 (List.map roE l)))))) (List.drop 0 (List.map roE (deR (List.take (List.length (List.map roE l)) (List.drop 0 (List.map roE l)))))) = List.map roE (deR (List.take (List.length (List.map roE (deR (List.take (List.length (List.map roE l)) (List.drop 0 (List.map roE l)))))) (List.drop 0 (List.map roE (deR (List.take (List.length (List.map roE l)) (List.drop 0 (List.map roE l)))))))) ∧ List.length (deR (List.take (List.length (List.map roE (deR (List.take (List.length (List.map roE l)) (List.drop 0 (List.map roE l)))))) (List.drop 0 (List.map roE (deR (List.take (List.length (List.map roE l)) (List.drop 0 (List.map roE l)))))))) ≤ (9223372036854775807 : Nat) ∧ AV.bool (tbR 128 (deR (List.take (List.length (List.map roE (deR (List.take (List.length (List.map roE l)) (List.drop 0 (List.map roE l)))))) (List.drop 0 (List.map roE (deR (List.take (List.length (List.map roE l)) (List.drop 0 (List.map roE l))))))))) = r) ∧ (Decidable.decide ((↑(List.length (List.map roE l)) : Int) ≤ (24 : Int)) = false → AV.bool false = r)) := by kernel_rfl

theorem table9Cs_ok : ∀ e ∈ table9Cs, SpecOK Try.prog e.1 e.2 := by
  intro e he
  simp only [table9Cs, List.mem_cons, List.not_mem_nil, or_false] at he
  rcases he with rfl | rfl
  · exact of6_ok
  · exact rrtable_ok

theorem table9_ok : SpecOK Try.prog 11 (genSpec [pRo] table9F) := by
  refine genSpec_ok (run_ok (l := table9Cs) table9Cs_ok mixed noNG) fun l R hF => ?_
  unfold table9F at hF
  split at hF
  · rename_i r_l
    obtain ⟨hr_l, hl, hF⟩ := hF
    generalize deR r_l = l at hr_l hl hF
    subst hr_l
    refine ⟨_, hF, rfl, [.fork [] []], ?_⟩
    show run table9Cs Try.prog _ [.vsl 0 0 (l.map roE).length] [some ⟨false, (pRo.getD (0, 0)).1, (pRo.getD (0, 0)).2, true, (l.map roE)⟩] _ _
    rw [table9_run]
    refine ⟨fun h => ?_, fun h => ?_⟩
    · have hn : l.length ≤ 24 := by have := of_decide_eq_true h; rw [List.length_map] at this; omega
      simp only [List.length_map, take_all (rfl : l.length = l.length), deR_map, zLe, true_and, eq_true (show l.length ≤ 1000000 by omega), eq_true hl]
      unfold tb9
      rw [decide_eq_true hn]; rfl
    · have hn : ¬ l.length ≤ 24 := by have := of_decide_eq_false h; rw [List.length_map] at this; omega
      unfold tb9
      rw [decide_eq_false hn]; rfl
  · exact hF.elim


/-- The law's tables are tables. -/
theorem tb9_is {l : List Ro} (h : tb9 l = true) : l.length ≤ 24 ∧ TB 128 l := by
  unfold tb9 at h
  rw [Bool.and_eq_true, decide_eq_true_eq, tbR_iff] at h
  exact h

end Go.Proofs.Ytnjbgbdcbejciaa.L1
end

