/-
  Texts in one: L9M L9A L9D.
-/
import Derived.Test.YtnjbgbdcbejciaaGreatL6a

section
/-
  Layer 9: which routes of a table are kept: plain mathematics.
-/
namespace Go.Sx.M
open Go.Proofs.YtnjbgbdcbejciaaGreat.L1

/-- The nearest route that covers a prefix, of a table. -/
theorem cvrR_cases {w w' : Int} {l : List Ro} (h : TB w l) {p : Pf} (hp : riP w' p = true) : (cvrR l p = none ∧ ∀ x ∈ l, ovP x.p p = false) ∨ ∃ x, x ∈ l ∧ cvrR l p = some x ∧ ovP x.p p = true ∧ ∀ y ∈ l, ovP y.p p = true → y.p.len ≤ x.p.len := by
  unfold cvrR
  rcases bsR_tb (shorter_tb h p.len) p.a p.b with ⟨h1, h2⟩ | ⟨x, hx, h1, h2, h3⟩
  · refine .inl ⟨h1, fun x hx => ?_⟩
    cases e : ovP x.p p with
    | false => rfl
    | true =>
      obtain ⟨a, b⟩ := (ovP_short (h.rip hx) hp).1 e
      rw [h2 x (mem_short.2 ⟨hx, a⟩)] at b; cases b
  · obtain ⟨hx, hl⟩ := mem_short.1 hx
    refine .inr ⟨x, hx, h1, (ovP_short (h.rip hx) hp).2 ⟨hl, h2⟩, fun y hy ho => ?_⟩
    obtain ⟨a, b⟩ := (ovP_short (h.rip hy) hp).1 ho
    exact h3 y (mem_short.2 ⟨hy, a⟩) b

theorem cvr_same {w w' : Int} {k m : List Ro} (hk : TB w k) (hm : TB w m) {p : Pf} (hp : riP w' p = true) (h : ∀ x, ovP x.p p = true → (x ∈ k ↔ x ∈ m)) : cvrR k p = cvrR m p := by
  rcases cvrR_cases hk hp with ⟨h1, h2⟩ | ⟨x, hx, h1, h2, h3⟩
  · rw [h1]
    refine (cvrR_none hm hp fun j hj => ?_).symm
    cases e : ovP (at' m j).p p with
    | false => rfl
    | true =>
      have := h2 _ ((h _ e).2 (at_mem hj))
      rw [this] at e; cases e
  · rw [h1]
    exact (cvrR_max hm hp ((h _ h2).1 hx) h2 fun y hy ho => h3 y ((h _ ho).2 hy) ho).symm

/-- Says a route something else than the one that covers it? -/
def saysR (c : Option Ro) (x : Ro) : Bool := match c with | none => true | some c => !decide (c.act = x.act)

def kpS (k : List Ro) (x : Ro) : List Ro := if saysR (cvrR k x.p) x then k ++ [x] else k

/-- Those that are kept. -/
def kpR (l : List Ro) : List Ro := l.foldl kpS []

theorem kpR_snoc (l : List Ro) (x : Ro) : kpR (l ++ [x]) = kpS (kpR l) x := by
  unfold kpR
  rw [List.foldl_append]; rfl

theorem kp_fold : ∀ (l k : List Ro), ∃ r, l.foldl kpS k = k ++ r ∧ r.Sublist l
  | [], k => ⟨[], by simp, .slnil⟩
  | x :: l, k => by
    obtain ⟨r, h1, h2⟩ := kp_fold l (kpS k x)
    rw [List.foldl_cons, h1]
    unfold kpS
    split
    · exact ⟨x :: r, by simp, h2.cons_cons _⟩
    · exact ⟨r, rfl, h2.cons _⟩

theorem kpR_sub (l : List Ro) : (kpR l).Sublist l := by
  obtain ⟨r, h1, h2⟩ := kp_fold l []
  unfold kpR
  rw [h1]
  simpa using h2

theorem kpR_mem {l : List Ro} {x : Ro} (h : x ∈ kpR l) : x ∈ l := (kpR_sub l).subset h
theorem kpR_tb {w : Int} {l : List Ro} (h : TB w l) : TB w (kpR l) := h.sub (kpR_sub l)

theorem kpR_parts (l m : List Ro) : ∃ r, kpR (l ++ m) = kpR l ++ r ∧ r.Sublist m := by
  obtain ⟨r, h1, h2⟩ := kp_fold m (kpR l)
  refine ⟨r, ?_, h2⟩
  rw [← h1]
  unfold kpR
  rw [List.foldl_append]

/-- What is kept, by what is kept. -/
theorem mem_kp {w : Int} {l : List Ro} (h : TB w l) {x : Ro} : x ∈ kpR l ↔ x ∈ l ∧ saysR (cvrR (kpR l) x.p) x = true := by
  have key : ∀ x ∈ l, (x ∈ kpR l ↔ saysR (cvrR (kpR l) x.p) x = true) := by
    intro x hx
    obtain ⟨s, t, rfl⟩ := List.append_of_mem hx
    have hs : TB w s := h.sub (List.sublist_append_left _ _)
    have hsort := h.sorted
    rw [List.pairwise_append] at hsort
    obtain ⟨_, h2, h3⟩ := hsort
    obtain ⟨h4, _⟩ := List.pairwise_cons.1 h2
    have e : s ++ x :: t = (s ++ [x]) ++ t := by simp
    obtain ⟨r, e1, hr⟩ := kpR_parts (s ++ [x]) t
    rw [kpR_snoc, ← e] at e1
    have hxs : x ∉ kpR s := fun hm => by
      have := h3 x (kpR_mem hm) x List.mem_cons_self
      rw [cpP_self] at this; omega
    have hxr : x ∉ r := fun hm => by
      have := h4 x (hr.subset hm)
      rw [cpP_self] at this; omega
    have hcv : cvrR (kpR (s ++ x :: t)) x.p = cvrR (kpR s) x.p := by
      refine cvr_same (kpR_tb h) (kpR_tb hs) (h.rip hx) fun y ho => ?_
      rw [e1]
      constructor
      · intro hy
        rcases List.mem_append.1 hy with hy | hy
        · unfold kpS at hy
          split at hy
          · rcases List.mem_append.1 hy with hy | hy
            · exact hy
            · rw [List.mem_singleton] at hy
              subst hy
              have := (ovP_iff.1 ho).1
              exact absurd rfl this
          · exact hy
        · have hyt := hr.subset hy
          have h5 := h4 y hyt
          have hyl : y ∈ s ++ x :: t := List.mem_append_right _ (List.mem_cons_of_mem _ hyt)
          have := ovP_lt (h.rip hyl) (h.rip hx) ho
          have := cpP_trans this h5
          rw [cpP_self] at this; omega
      · intro hy
        refine List.mem_append_left _ ?_
        unfold kpS
        split
        · exact List.mem_append_left _ hy
        · exact hy
    rw [hcv, e1, List.mem_append]
    unfold kpS
    split
    · rename_i hsay
      rw [hsay]
      exact ⟨fun _ => rfl, fun _ => .inl (by simp)⟩
    · rename_i hsay
      exact ⟨fun hm => hm.elim (fun h => absurd h hxs) fun h => absurd h hxr, fun hm => absurd hm hsay⟩
  exact ⟨fun hx => ⟨kpR_mem hx, (key x (kpR_mem hx)).1 hx⟩, fun hx => (key x hx.1).2 hx.2⟩

/-- What is kept of those that are shorter than n, and of the first i of those that are as long. -/
def kgR (l : List Ro) (n i : Nat) : List Ro := (kpR l).filter fun x => decide (x.p.len < n ∨ (x.p.len = n ∧ x ∈ l.take i))

theorem mem_kg {l : List Ro} {n i : Nat} {x : Ro} : x ∈ kgR l n i ↔ x ∈ kpR l ∧ (x.p.len < n ∨ (x.p.len = n ∧ x ∈ l.take i)) := by
  unfold kgR
  rw [List.mem_filter, decide_eq_true_eq]

theorem kg_length (l : List Ro) (n i : Nat) : (kgR l n i).length ≤ l.length := Nat.le_trans (List.length_filter_le _ _) (kpR_sub l).length_le

theorem kg_tb {w : Int} {l : List Ro} (h : TB w l) (n i : Nat) : TB w (kgR l n i) := (kpR_tb h).sub List.filter_sublist

theorem kg_zero {w : Int} {l : List Ro} (h : TB w l) : kgR l 0 0 = [] := by
  refine List.eq_nil_iff_forall_not_mem.2 fun x hx => ?_
  obtain ⟨hk, hx⟩ := mem_kg.1 hx
  obtain ⟨_, h0, _⟩ := riP_iff.1 (h.rip (kpR_mem hk))
  rcases hx with h1 | ⟨_, h1⟩
  · omega
  · rw [List.take_zero] at h1; cases h1

theorem kg_ext {w : Int} {l : List Ro} (h : TB w l) {n i : Nat} {m : List Ro} (hm : TB w m) (he : ∀ x, (x ∈ kpR l ∧ (x.p.len < n ∨ (x.p.len = n ∧ x ∈ l.take i))) ↔ x ∈ m) : kgR l n i = m :=
  tb_ext (kg_tb h n i).sorted hm.sorted fun x => by rw [mem_kg]; exact he x

theorem kg_next {w : Int} {l : List Ro} (h : TB w l) (n : Nat) : kgR l n l.length = kgR l (n + 1) 0 :=
  kg_ext h (kg_tb h _ _) fun x => by
    rw [mem_kg, List.take_length, List.take_zero]
    constructor
    · rintro ⟨h1, h2 | ⟨h2, _⟩⟩ <;> exact ⟨h1, .inl (by omega)⟩
    · rintro ⟨h1, h2 | ⟨_, h2⟩⟩
      · by_cases e : x.p.len = n
        · exact ⟨h1, .inr ⟨e, kpR_mem h1⟩⟩
        · exact ⟨h1, .inl (by omega)⟩
      · cases h2

theorem kg_all {l : List Ro} (h : TB 128 l) : kgR l 129 0 = kpR l :=
  kg_ext h (kpR_tb h) fun x => by
    constructor
    · exact fun h => h.1
    · intro hx
      obtain ⟨_, _, h1, _⟩ := riP_iff.1 (h.rip (kpR_mem hx))
      exact ⟨hx, .inl (by omega)⟩

theorem take_mem {w : Int} {l : List Ro} (_ : TB w l) {i : Nat} (hi : i < l.length) {x : Ro} : x ∈ l.take (i + 1) ↔ x ∈ l.take i ∨ x = at' l i := by
  rw [List.take_add_one, at_get hi, List.mem_append]
  simp

theorem kg_skip {w : Int} {l : List Ro} (h : TB w l) {n i : Nat} (hi : i < l.length) (hs : (at' l i).p.len ≠ n ∨ saysR (cvrR (kpR l) (at' l i).p) (at' l i) = false) : kgR l n (i + 1) = kgR l n i :=
  kg_ext h (kg_tb h _ _) fun x => by
    rw [mem_kg, take_mem h hi]
    constructor
    · rintro ⟨h1, h2 | ⟨h2, h3 | rfl⟩⟩
      · exact ⟨h1, .inl h2⟩
      · exact ⟨h1, .inr ⟨h2, h3⟩⟩
      · rcases hs with hs | hs
        · exact absurd h2 hs
        · rw [((mem_kp h).1 h1).2] at hs; cases hs
    · rintro ⟨h1, h2 | ⟨h2, h3⟩⟩
      · exact ⟨h1, .inl h2⟩
      · exact ⟨h1, .inr ⟨h2, .inl h3⟩⟩

theorem kg_cov {w : Int} {l : List Ro} (h : TB w l) {n i : Nat} {x : Ro} (hx : x ∈ l) (hn : x.p.len = n) : cvrR (kgR l n i) x.p = cvrR (kpR l) x.p :=
  cvr_same (kg_tb h _ _) (kpR_tb h) (h.rip hx) fun y ho => by
    rw [mem_kg]
    refine ⟨fun h => h.1, fun hy => ⟨hy, .inl ?_⟩⟩
    have := ((ovP_short (h.rip (kpR_mem hy)) (h.rip hx)).1 ho).1
    omega

theorem kg_put {w : Int} {l : List Ro} (h : TB w l) {n i : Nat} (hi : i < l.length) (hn : (at' l i).p.len = n) (hs : saysR (cvrR (kpR l) (at' l i).p) (at' l i) = true) : kgR l n (i + 1) = ptR (kgR l n i) (at' l i) := by
  have hx := at_mem hi
  have hxk : at' l i ∈ kpR l := (mem_kp h).2 ⟨hx, hs⟩
  have hsort : (ptR (kgR l n i) (at' l i)).Pairwise fun x y => cpP x.p y.p < 0 := inR_sorted (drR_tb (kg_tb h n i) _).sorted fun x hx => (mem_drR.1 hx).2
  refine tb_ext (kg_tb h _ _).sorted hsort fun x => ?_
  rw [mem_kg, mem_ptR, mem_kg, take_mem h hi]
  constructor
  · rintro ⟨h1, h2⟩
    by_cases e : x = at' l i
    · exact .inl e
    · refine .inr ⟨⟨h1, ?_⟩, fun g => e (h.one (kpR_mem h1) hx g)⟩
      rcases h2 with h2 | ⟨h2, h3 | h3⟩
      · exact .inl h2
      · exact .inr ⟨h2, h3⟩
      · exact absurd h3 e
  · rintro (rfl | ⟨⟨h1, h2⟩, _⟩)
    · exact ⟨hxk, .inr ⟨hn, .inr rfl⟩⟩
    · rcases h2 with h2 | ⟨h2, h3⟩
      · exact ⟨h1, .inl h2⟩
      · exact ⟨h1, .inr ⟨h2, .inl h3⟩⟩

end Go.Sx.M
end

section
/-
  Layer 9: the contract of the document's Keep; of the law's Table.
-/
namespace Go.Proofs.YtnjbgbdcbejciaaGreat.L1
open Go.Sx Go.Sx.M

def kpSt (l : List Ro) (n : Nat) : St :=
  ⟨[.vsl 0 0 (l.map roE).length, .any, .any, .vsl 1 0 (kgR l n 0).length, .int .i64 n, .any, .any, .any, .any, .any, .any, .any, .any, .any, .any, .any, .any, .any, .any, .any, .any, .any, .any, .any, .any, .any, .any, .any, .any, .any, .any, .any, .any, .any, .any, .any, .any, .any, .any, .any, .any, .any, .any, .any, .any, .any, .any, .any, .any, .any, .any, .any, .any, .any, .any], [some ⟨false, 62, 4, true, l.map roE⟩, some ⟨true, 62, 4, true, (kgR l n 0).map roE⟩]⟩
def kpSt2 (l : List Ro) (n i : Nat) : St :=
  ⟨[.vsl 0 0 (l.map roE).length, .any, .any, .vsl 1 0 (kgR l n i).length, .int .i64 n, .int .i64 i, .any, .any, .any, .any, .any, .any, .any, .any, .any, .any, .any, .any, .any, .any, .any, .any, .any, .any, .any, .any, .any, .any, .any, .any, .any, .any, .any, .any, .any, .any, .any, .any, .any, .any, .any, .any, .any, .any, .any, .any, .any, .any, .any, .any, .any, .any, .any, .any, .any], [some ⟨false, 62, 4, true, l.map roE⟩, some ⟨true, 62, 4, true, (kgR l n i).map roE⟩]⟩
def kpM0 : Modes := ⟨[1, 0, 0, 1, 2, 0, 0, 0, 0, 0, 0, 0, 0, 0, 0, 0, 0, 0, 0, 0, 0, 0, 0, 0, 0, 0, 0, 0, 0, 0, 0, 0, 0, 0, 0, 0, 0, 0, 0, 0, 0, 0, 0, 0, 0, 0, 0, 0, 0, 0, 0, 0, 0, 0, 0], [], [], [], [(3, 62, 4)]⟩
def kpM : Modes := ⟨[1, 0, 0, 1, 1, 0, 0, 0, 0, 0, 0, 0, 0, 0, 0, 0, 0, 0, 0, 0, 0, 0, 0, 0, 0, 0, 0, 0, 0, 0, 0, 0, 0, 0, 0, 0, 0, 0, 0, 0, 0, 0, 0, 0, 0, 0, 0, 0, 0, 0, 0, 0, 0, 0, 0], [], [], [], []⟩
def kpM' : Modes := ⟨[1, 0, 0, 1, 0, 0, 0, 0, 0, 0, 0, 0, 0, 0, 0, 0, 0, 0, 0, 0, 0, 0, 0, 0, 0, 0, 0, 0, 0, 0, 0, 0, 0, 0, 0, 0, 0, 0, 0, 0, 0, 0, 0, 0, 0, 0, 0, 0, 0, 0, 0, 0, 0, 0, 0], [], [], [], []⟩
def kpN0 : Modes := ⟨[1, 0, 0, 1, 1, 2, 0, 0, 0, 0, 0, 0, 0, 0, 0, 0, 0, 0, 0, 0, 0, 0, 0, 0, 0, 0, 0, 0, 0, 0, 0, 0, 0, 0, 0, 0, 0, 0, 0, 0, 0, 0, 0, 0, 0, 0, 0, 0, 0, 0, 0, 0, 0, 0, 0], [], [], [], []⟩
def kpN : Modes := ⟨[1, 0, 0, 1, 1, 1, 0, 0, 0, 0, 0, 0, 0, 0, 0, 0, 0, 0, 0, 0, 0, 0, 0, 0, 0, 0, 0, 0, 0, 0, 0, 0, 0, 0, 0, 0, 0, 0, 0, 0, 0, 0, 0, 0, 0, 0, 0, 0, 0, 0, 0, 0, 0, 0, 0], [], [], [], []⟩
def kpH (l : List Ro) : List Hint := [.linv _ 0 (kpSt l) (fun n => n ≤ 129) (fun n => 130 - n) kpM0 kpM kpM' (fun _ => []) fun n =>
  [.fork [.linv _ 0 (kpSt2 l n) (fun i => i ≤ l.length) (fun i => l.length + 1 - i) kpN0 kpN kpM (fun _ => [.nw]) fun i =>
    [.fork [.dy, .cell (.int .i64 (at' l i).p.len), .fork [.nw] [.dy, .cell (pfE (at' l i).p), .fork [.dy, .cell (roE (at' l i)), .nw] [.dy, .cell (.int .i64 (at' l i).act), .fork [.dy, .cell (roE (at' l i)), .nw] [.nw]]]] []]] []]]

def rkeepF : List Arg → (Res → Prop) → Prop
  | [.row r_l], R => r_l = (deR r_l).map roE ∧ tbR 128 (deR r_l) = true ∧ R (.vrow 62 4 ((kpR (deR r_l)).map roE))
  | _, _ => False

noncomputable def rkeepCs : List (FuncId × Sx.Spec) := [(44, genSpec [pRefR, none] rrcoverF), (45, genSpec [pRefR, none] rrputF)]

theorem rkeep_run (l : List Ro) (es : List AV) : run rkeepCs Tryz.prog 19 [.vsl 0 0 (l.map roE).length] [some ⟨false, 62, 4, true, l.map roE⟩] (kpH l) (yields (.vrow 62 4 es)) =
    ((St.mk [AV.vsl 0 0 (List.length (List.map roE l)), .any, .any, AV.vsl (List.length [some (Blk.mk false (62 : TypeId) 4 true (List.map roE l))]) 0 0, AV.int IntKind.i64 0, .any, .any, .any, .any, .any, .any, .any, .any, .any, .any, .any, .any, .any, .any, .any, .any, .any, .any, .any, .any, .any, .any, .any, .any, .any, .any, .any, .any, .any, .any, .any, .any, .any, .any, .any, .any, .any, .any, .any, .any, .any, .any, .any, .any, .any, .any, .any, .any, .any, .any] ([some (Blk.mk false (62 : TypeId) 4 true (List.map roE l))] ++ [some (Blk.mk true (62 : TypeId) 4 true [])]) = kpSt l 0 ∧ Nat.le 0 129) ∧ ∀ (p : Nat), Nat.le p 129 → (Decidable.decide ((↑p : Int) ≤ (128 : Int)) = true → (St.mk [AV.vsl 0 0 (List.length (List.map roE l)), .any, .any, AV.vsl ((0 : Nat) + (1 : Nat)) 0 (List.length (kgR l p 0)), AV.int IntKind.i64 (↑p : Int), AV.int IntKind.i64 0, .any, .any, .any, .any, .any, .any, .any, .any, .any, .any, .any, .any, .any, .any, .any, .any, .any, .any, .any, .any, .any, .any, .any, .any, .any, .any, .any, .any, .any, .any, .any, .any, .any, .any, .any, .any, .any, .any, .any, .any, .any, .any, .any, .any, .any, .any, .any, .any, .any] [some (Blk.mk false (62 : TypeId) 4 true (List.map roE l)), some (Blk.mk true (62 : TypeId) 4 true (List.map roE (kgR l p 0)))] = kpSt2 l p 0 ∧ Nat.le 0 (List.length l)) ∧ ∀ (p_1 : Nat), Nat.le p_1 (List.length l) → (Decidable.decide ((↑p_1 : Int) < (↑(List.length (List.map roE l)) : Int)) = true → ((0 : Int) ≤ (↑p_1 : Int) ∧ (↑p_1 : Int) < (↑(List.length (List.map roE l)) : Int)) ∧ Blk.read Proofs.Tryz.prog (Blk.mk false (62 : TypeId) 4 true (List.map roE l)) 3 ((0 : Nat) + Int.toNat (↑p_1 : Int)) ((0 : Nat) + (0 : Nat) + (2 : Nat)) = some (AV.int IntKind.i64 (Ro.p (at' l p_1)).3) ∧ (((Ro.p (at' l p_1)).3 != (↑p : Int)) = true → inRange IntKind.i64 ((↑p_1 : Int) + (1 : Int)) ∧ ∃ (p' : Nat), St.mk [AV.vsl 0 0 (List.length (List.map roE l)), .any, .any, AV.vsl ((0 : Nat) + (1 : Nat)) 0 (List.length (kgR l p p_1)), AV.int IntKind.i64 (↑p : Int), AV.int IntKind.i64 ((↑p_1 : Int) + (1 : Int)), .any, .any, .any, .any, .any, .any, .any, .any, .any, .any, .any, .any, .any, .any, .any, .any, .any, .any, .any, .any, .any, .any, .any, .any, .any, .any, .any, .any, .any, .any, .any, .any, .any, .any, .any, .any, .any, .any, .any, .any, .any, .any, .any, .any, .any, .any, .any, .any, .any] [some (Blk.mk false (62 : TypeId) 4 true (List.map roE l)), some (Blk.mk true (62 : TypeId) 4 true (List.map roE (kgR l p p_1)))] = kpSt2 l p p' ∧ Nat.le p' (List.length l) ∧ List.length l + (1 : Nat) - p' < List.length l + (1 : Nat) - p_1) ∧ (((Ro.p (at' l p_1)).3 != (↑p : Int)) = false → ((0 : Int) ≤ (↑p_1 : Int) ∧ (↑p_1 : Int) < (↑(List.length (List.map roE l)) : Int)) ∧ Blk.read Proofs.Tryz.prog (Blk.mk false (62 : TypeId) 4 true (List.map roE l)) 60 ((0 : Nat) + Int.toNat (↑p_1 : Int)) ((0 : Nat) + (0 : Nat)) = some (AV.agg [AV.w64 (Ro.p (at' l p_1)).1, AV.w64 (Ro.p (at' l p_1)).2, AV.int IntKind.i64 (Ro.p (at' l p_1)).3]) ∧ (0 : Nat) + List.length (kgR l p p_1) ≤ List.length (List.map roE (kgR l p p_1)) ∧ List.take (List.length (kgR l p p_1)) (List.drop 0 (List.map roE (kgR l p p_1))) = List.map roE (deR (List.take (List.length (kgR l p p_1)) (List.drop 0 (List.map roE (kgR l p p_1))))) ∧ List.length (deR (List.take (List.length (kgR l p p_1)) (List.drop 0 (List.map roE (kgR l p p_1))))) ≤ (1000000 : Nat) ∧ ((!Option.isSome (cvrR (deR (List.take (List.length (kgR l p p_1)) (List.drop 0 (List.map roE (kgR l p p_1))))) (Pf.mk (Ro.p (at' l p_1)).1 (Ro.p (at' l p_1)).2 (Ro.p (at' l p_1)).3))) = true → ((0 : Int) ≤ (↑p_1 : Int) ∧ (↑p_1 : Int) < (↑(List.length (List.map roE l)) : Int)) ∧ Blk.read Proofs.Tryz.prog (Blk.mk false (62 : TypeId) 4 true (List.map roE l)) 62 ((0 : Nat) + Int.toNat (↑p_1 : Int)) 0 = some (AV.agg [AV.w64 (Ro.p (at' l p_1)).1, AV.w64 (Ro.p (at' l p_1)).2, AV.int IntKind.i64 (Ro.p (at' l p_1)).3, AV.int IntKind.i64 (at' l p_1).2]) ∧ (0 : Nat) + List.length (kgR l p p_1) ≤ List.length (List.map roE (kgR l p p_1)) ∧ List.take (List.length (kgR l p p_1)) (List.drop 0 (List.map roE (kgR l p p_1))) = List.map roE (deR (List.take (List.length (kgR l p p_1)) (List.drop 0 (List.map roE (kgR l p p_1))))) ∧ List.length (deR (List.take (List.length (kgR l p p_1)) (List.drop 0 (List.map roE (kgR l p p_1))))) ≤ (1000000 : Nat) ∧ inRange IntKind.i64 ((↑p_1 : Int) + (1 : Int)) ∧ ∃ (p' : Nat), St.mk [AV.vsl 0 0 (List.length (List.map roE l)), .any, .any, AV.vsl ((0 : Nat) + (1 : Nat)) 0 (List.length (List.map roE (ptR (deR (List.take (List.length (kgR l p p_1)) (List.drop 0 (List.map roE (kgR l p p_1))))) (Ro.mk (Pf.mk (Ro.p (at' l p_1)).1 (Ro.p (at' l p_1)).2 (Ro.p (at' l p_1)).3) (at' l p_1).2)))), AV.int IntKind.i64 (↑p : Int), AV.int IntKind.i64 ((↑p_1 : Int) + (1 : Int)), .any, .any, .any, .any, .any, .any, .any, .any, .any, .any, .any, .any, .any, .any, .any, .any, .any, .any, .any, .any, .any, .any, .any, .any, .any, .any, .any, .any, .any, .any, .any, .any, .any, .any, .any, .any, .any, .any, .any, .any, .any, .any, .any, .any, .any, .any, .any, .any, .any] [some (Blk.mk false (62 : TypeId) 4 true (List.map roE l)), some (Blk.mk true (62 : TypeId) 4 true (List.map roE (ptR (deR (List.take (List.length (kgR l p p_1)) (List.drop 0 (List.map roE (kgR l p p_1))))) (Ro.mk (Pf.mk (Ro.p (at' l p_1)).1 (Ro.p (at' l p_1)).2 (Ro.p (at' l p_1)).3) (at' l p_1).2))))] = kpSt2 l p p' ∧ Nat.le p' (List.length l) ∧ List.length l + (1 : Nat) - p' < List.length l + (1 : Nat) - p_1) ∧ ((!Option.isSome (cvrR (deR (List.take (List.length (kgR l p p_1)) (List.drop 0 (List.map roE (kgR l p p_1))))) (Pf.mk (Ro.p (at' l p_1)).1 (Ro.p (at' l p_1)).2 (Ro.p (at' l p_1)).3))) = false → ((0 : Int) ≤ (↑p_1 : Int) ∧ (↑p_1 : Int) < (↑(List.length (List.map roE l)) : Int)) ∧ Blk.read Proofs.Tryz.prog (Blk.mk false (62 : TypeId) 4 true (List.map roE l)) 3 ((0 : Nat) + Int.toNat (↑p_1 : Int)) ((0 : Nat) + (3 : Nat)) = some (AV.int IntKind.i64 (at' l p_1).2) ∧ (((roO (cvrR (deR (List.take (List.length (kgR l p p_1)) (List.drop 0 (List.map roE (kgR l p p_1))))) (Pf.mk (Pf.a (Ro.p (at' l p_1))) (Pf.b (Ro.p (at' l p_1))) (Pf.len (Ro.p (at' l p_1)))))).2 != (at' l p_1).2) = true → ((0 : Int) ≤ (↑p_1 : Int) ∧ (↑p_1 : Int) < (↑(List.length (List.map roE l)) : Int)) ∧ Blk.read Proofs.Tryz.prog (Blk.mk false (62 : TypeId) 4 true (List.map roE l)) 62 ((0 : Nat) + Int.toNat (↑p_1 : Int)) 0 = some (AV.agg [AV.w64 (Ro.p (at' l p_1)).1, AV.w64 (Ro.p (at' l p_1)).2, AV.int IntKind.i64 (Ro.p (at' l p_1)).3, AV.int IntKind.i64 (at' l p_1).2]) ∧ (0 : Nat) + List.length (kgR l p p_1) ≤ List.length (List.map roE (kgR l p p_1)) ∧ List.take (List.length (kgR l p p_1)) (List.drop 0 (List.map roE (kgR l p p_1))) = List.map roE (deR (List.take (List.length (kgR l p p_1)) (List.drop 0 (List.map roE (kgR l p p_1))))) ∧ List.length (deR (List.take (List.length (kgR l p p_1)) (List.drop 0 (List.map roE (kgR l p p_1))))) ≤ (1000000 : Nat) ∧ inRange IntKind.i64 ((↑p_1 : Int) + (1 : Int)) ∧ ∃ (p' : Nat), St.mk [AV.vsl 0 0 (List.length (List.map roE l)), .any, .any, AV.vsl ((0 : Nat) + (1 : Nat)) 0 (List.length (List.map roE (ptR (deR (List.take (List.length (kgR l p p_1)) (List.drop 0 (List.map roE (kgR l p p_1))))) (Ro.mk (Pf.mk (Ro.p (at' l p_1)).1 (Ro.p (at' l p_1)).2 (Ro.p (at' l p_1)).3) (at' l p_1).2)))), AV.int IntKind.i64 (↑p : Int), AV.int IntKind.i64 ((↑p_1 : Int) + (1 : Int)), .any, .any, .any, .any, .any, .any, .any, .any, .any, .any, .any, .any, .any, .any, .any, .any, .any, .any, .any, .any, .any, .any, .any, .any, .any, .any, .any, .any, .any, .any, .any, .any, .any, .any, .any, .any, .any, .any, .any, .any, .any, .any, .any, .any, .any, .any, .any, .any, .any] [some (Blk.mk false (62 : TypeId) 4 true (List.map roE l)), some (Blk.mk true (62 : TypeId) 4 true (List.map roE (ptR (deR (List.take (List.length (kgR l p p_1)) (List.drop 0 (List.map roE (kgR l p p_1))))) (Ro.mk (Pf.mk (Ro.p (at' l p_1)).1 (Ro.p (at' l p_1)).2 (Ro.p (at' l p_1)).3) (at' l p_1).2))))] = kpSt2 l p p' ∧ Nat.le p' (List.length l) ∧ List.length l + (1 : Nat) - p' < List.length l + (1 : Nat) - p_1) ∧ (((roO (cvrR (deR (List.take (List.length (kgR l p p_1)) (List.drop 0 (List.map roE (kgR l p p_1))))) (Pf.mk (Pf.a (Ro.p (at' l p_1))) (Pf.b (Ro.p (at' l p_1))) (Pf.len (Ro.p (at' l p_1)))))).2 != (at' l p_1).2) = false → inRange IntKind.i64 ((↑p_1 : Int) + (1 : Int)) ∧ ∃ (p' : Nat), St.mk [AV.vsl 0 0 (List.length (List.map roE l)), .any, .any, AV.vsl ((0 : Nat) + (1 : Nat)) 0 (List.length (kgR l p p_1)), AV.int IntKind.i64 (↑p : Int), AV.int IntKind.i64 ((↑p_1 : Int) + (1 : Int)), .any, .any, .any, .any, .any, .any, .any, .any, .any, .any, .any, .any, .any, .any, .any, .any, .any, .any, .any, .any, .any, .any, .any, .any, .any, .any, .any, .any, .any, .any, .any, .any, .any, .any, .any, .any, .any, .any, .any, .any, .any, .any, .any, .any, .any, .any, .any, .any, .any] [some (Blk.mk false (62 : TypeId) 4 true (List.map roE l)), some (Blk.mk true (62 : TypeId) 4 true (List.map roE (kgR l p p_1)))] = kpSt2 l p p' ∧ Nat.le p' (List.length l) ∧ List.length l + (1 : Nat) - p' < List.length l + (1 : Nat) - p_1)))) ∧ (Decidable.decide ((↑p_1 : Int) < (↑(List.length (List.map roE l)) : Int)) = false → inRange IntKind.i64 ((↑p : Int) + (1 : Int)) ∧ ∃ (p' : Nat), St.mk [AV.vsl 0 0 (List.length (List.map roE l)), .any, .any, AV.vsl ((0 : Nat) + (1 : Nat)) 0 (List.length (kgR l p p_1)), AV.int IntKind.i64 ((↑p : Int) + (1 : Int)), .any, .any, .any, .any, .any, .any, .any, .any, .any, .any, .any, .any, .any, .any, .any, .any, .any, .any, .any, .any, .any, .any, .any, .any, .any, .any, .any, .any, .any, .any, .any, .any, .any, .any, .any, .any, .any, .any, .any, .any, .any, .any, .any, .any, .any, .any, .any, .any, .any, .any] [some (Blk.mk false (62 : TypeId) 4 true (List.map roE l)), some (Blk.mk true (62 : TypeId) 4 true (List.map roE (kgR l p p_1)))] = kpSt l p' ∧ Nat.le p' 129 ∧ (130 : Nat) - p' < (130 : Nat) - p)) ∧ (Decidable.decide ((↑p : Int) ≤ (128 : Int)) = false → List.length (kgR l p 0) = List.length es ∧ some (Blk.mk true (62 : TypeId) 4 true (List.map roE (kgR l p 0))) = some (Blk.mk true (62 : TypeId) 4 true es))) := by kernel_rfl

theorem rkeepCs_ok : ∀ e ∈ rkeepCs, SpecOK Tryz.prog e.1 e.2 := by
  intro e he
  simp only [rkeepCs, List.mem_cons, List.not_mem_nil, or_false] at he
  rcases he with rfl | rfl
  · exact rrcover_ok
  · exact rrput_ok

theorem rkeep_ok : SpecOK Tryz.prog 19 (genSpec [pRefR] rkeepF) := by
  refine genSpec_ok (run_ok (l := rkeepCs) rkeepCs_ok mixed noNG) fun l R hF => ?_
  unfold rkeepF at hF
  split at hF
  · rename_i r_l
    obtain ⟨hr_l, ht, hF⟩ := hF
    generalize deR r_l = l at hr_l ht hF
    subst hr_l
    have h := tbR_iff.1 ht
    have hm := h.most
    refine ⟨_, hF, trivial, (kpH l), ?_⟩
    show run rkeepCs Tryz.prog _ [.vsl 0 0 (l.map roE).length] [some ⟨false, 62, 4, true, l.map roE⟩] _ _
    rw [rkeep_run]
    refine ⟨⟨by unfold kpSt; rw [kg_zero h]; rfl, Nat.zero_le _⟩, ?_⟩
    intro n (hn : n ≤ 129)
    refine ⟨fun hle => ⟨⟨rfl, Nat.zero_le _⟩, ?_⟩, fun hgt => ?_⟩
    · have hle : n ≤ 128 := by have := of_decide_eq_true hle; omega
      intro i (hi : i ≤ l.length)
      have hg := kg_length l n i
      have i1 : inRange .i64 ((i : Int) + 1) := inR (by omega) (by omega)
      simp only [take_all (rfl : (kgR l n i).length = _), deR_map, zLe, true_and, eq_true (show (kgR l n i).length ≤ 1000000 by omega), List.length_map]
      refine ⟨fun hlt => ?_, fun hge => ?_⟩
      · have hlt : i < l.length := by have := of_decide_eq_true hlt; omega
        have B : 0 ≤ (i : Int) ∧ (i : Int) < ((l.map roE).length : Int) := by rw [List.length_map]; omega
        have B' : 0 ≤ (i : Int) ∧ (i : Int) < (l.length : Int) := by omega
        have same : kgR l n (i + 1) = kgR l n i → ∃ p', (⟨[.vsl 0 0 l.length, .any, .any, .vsl 1 0 (kgR l n i).length, .int .i64 n, .int .i64 ((i : Int) + 1), .any, .any, .any, .any, .any, .any, .any, .any, .any, .any, .any, .any, .any, .any, .any, .any, .any, .any, .any, .any, .any, .any, .any, .any, .any, .any, .any, .any, .any, .any, .any, .any, .any, .any, .any, .any, .any, .any, .any, .any, .any, .any, .any, .any, .any, .any, .any, .any, .any], [some ⟨false, 62, 4, true, l.map roE⟩, some ⟨true, 62, 4, true, (kgR l n i).map roE⟩]⟩ : St) = kpSt2 l n p' ∧ p' ≤ l.length ∧ l.length + 1 - p' < l.length + 1 - i := fun e => by
          refine ⟨i + 1, ?_, hlt, by omega⟩
          unfold kpSt2
          rw [e, List.length_map]; rfl
        have put : kgR l n (i + 1) = ptR (kgR l n i) (at' l i) → ∃ p', (⟨[.vsl 0 0 l.length, .any, .any, .vsl 1 0 (ptR (kgR l n i) (at' l i)).length, .int .i64 n, .int .i64 ((i : Int) + 1), .any, .any, .any, .any, .any, .any, .any, .any, .any, .any, .any, .any, .any, .any, .any, .any, .any, .any, .any, .any, .any, .any, .any, .any, .any, .any, .any, .any, .any, .any, .any, .any, .any, .any, .any, .any, .any, .any, .any, .any, .any, .any, .any, .any, .any, .any, .any, .any, .any], [some ⟨false, 62, 4, true, l.map roE⟩, some ⟨true, 62, 4, true, (ptR (kgR l n i) (at' l i)).map roE⟩]⟩ : St) = kpSt2 l n p' ∧ p' ≤ l.length ∧ l.length + 1 - p' < l.length + 1 - i := fun e => by
          refine ⟨i + 1, ?_, hlt, by omega⟩
          unfold kpSt2
          rw [e, List.length_map]; rfl
        refine ⟨B', read_rows B.1 B.2 (ro_len _), fun hne => ⟨i1, same (kg_skip h hlt (.inl (by simpa using hne)))⟩, fun he => ?_⟩
        have he : (at' l i).p.len = n := by simpa using he
        have hc : cvrR (kgR l n i) (at' l i).p = cvrR (kpR l) (at' l i).p := kg_cov h (at_mem hlt) he
        refine ⟨B', read_rows B.1 B.2 (rr_p _), fun hno => ⟨B', read_rows B.1 B.2 (rr_whole _), i1, put (kg_put h hlt he ?_)⟩, fun hyes => ⟨B', read_rows B.1 B.2 (ro_act _), fun hact => ⟨B', read_rows B.1 B.2 (rr_whole _), i1, put (kg_put h hlt he ?_)⟩, fun hact => ⟨i1, same (kg_skip h hlt (.inr ?_))⟩⟩⟩
        · have hno : (cvrR (kgR l n i) (at' l i).p).isSome = false := notTT hno
          rw [hc] at hno
          cases e : cvrR (kpR l) (at' l i).p with
          | none => rfl
          | some c => rw [e] at hno; cases hno
        · have hyes : (cvrR (kgR l n i) (at' l i).p).isSome = true := notF hyes
          have hact : ((roO (cvrR (kgR l n i) (at' l i).p)).act != (at' l i).act) = true := hact
          rw [hc] at hyes hact
          cases e : cvrR (kpR l) (at' l i).p with
          | none => rfl
          | some c =>
            rw [e] at hact
            unfold saysR
            simpa [roO] using hact
        · have hyes : (cvrR (kgR l n i) (at' l i).p).isSome = true := notF hyes
          have hact : ((roO (cvrR (kgR l n i) (at' l i).p)).act != (at' l i).act) = false := hact
          rw [hc] at hyes hact
          cases e : cvrR (kpR l) (at' l i).p with
          | none => rw [e] at hyes; cases hyes
          | some c =>
            rw [e] at hact
            unfold saysR
            simpa [roO] using hact
      · have hi : i = l.length := by have := of_decide_eq_false hge; omega
        subst hi
        refine ⟨inR (by omega) (by omega), n + 1, ?_, (by omega : n + 1 ≤ 129), by omega⟩
        unfold kpSt
        rw [← kg_next h n, List.length_map]; rfl
    · have hn : n = 129 := by have := of_decide_eq_false hgt; omega
      subst hn
      rw [kg_all h]
      exact ⟨(List.length_map _).symm, rfl⟩
  · exact hF.elim

end Go.Proofs.YtnjbgbdcbejciaaGreat.L1
end

section
/-
  Layer 9: what the contracts of the program's calls say; the law's Table; what the document fixes of three routes.
-/
namespace Go.Proofs.YtnjbgbdcbejciaaGreat.L1
open Go.Sx Go.Sx.M

def gkeep9F : List Arg → (Res → Prop) → Prop
  | [.row r_l], R => r_l = (deR r_l).map roE ∧ tbR 128 (deR r_l) = true ∧ R (.vrow 42 4 ((kpR (deR r_l)).map roE))
  | _, _ => False

/-- The law's tables. -/
def tb9 (l : List Ro) : Bool := decide (l.length ≤ 24) && tbR 128 l

def table9F : List Arg → (Res → Prop) → Prop
  | [.row r_l], R => r_l = (deR r_l).map roE ∧ (deR r_l).length ≤ 9223372036854775807 ∧ R (.v (.bool (tb9 (deR r_l))))
  | _, _ => False

noncomputable def table9Cs : List (FuncId × Sx.Spec) := [(9, genSpec [pRo] of6F),
  (11, genSpec [none, pRefR] rrtableF)]

theorem table9_run (l : List Ro) (r : AV) : run table9Cs Tryz.prog 4 [.vsl 0 0 (l.map roE).length] [some ⟨false, (pRo.getD (0, 0)).1, (pRo.getD (0, 0)).2, true, (l.map roE)⟩] [.fork [] []] (yields (.v r)) =
    ((Decidable.decide ((↑(List.length (List.map roE l)) : Int) ≤ (24 : Int)) = true → (0 : Nat) + List.length (List.map roE l) ≤ List.length (List.map roE l) ∧ List.take (List.length (List.map roE l)) (List.drop 0 (List.map roE l)) = List.map roE (deR (List.take (List.length (List.map roE l)) (List.drop 0 (List.map roE l)))) ∧ List.length (deR (List.take (List.length (List.map roE l)) (List.drop 0 (List.map roE l)))) ≤ (1000000 : Nat) ∧ (0 : Nat) + List.length (List.map roE (deR (List.take (List.length (List.map roE l)) (List.drop 0 (List.map roE l))))) ≤ List.length (List.map roE (deR (List.take (List.length (List.map roE l)) (List.drop 0 (List.map roE l))))) ∧ List.take (List.length (List.map roE (deR (List.take (List.length (List.map roE l)) (List.drop 0 (List.map roE l)))))) (List.drop 0 (List.map roE (deR (List.take (List.length (List.map roE l)) (List.drop 0 (List.map roE l)))))) = List.map roE (deR (List.take (List.length (List.map roE (deR (List.take (List.length (List.map roE l)) (List.drop 0 (List.map roE l)))))) (List.drop 0 (List.map roE (deR (List.take (List.length (List.map roE l)) (List.drop 0 (List.map roE l)))))))) ∧ List.length (deR (List.take (List.length (List.map roE (deR (List.take (List.length (List.map roE l)) (List.drop 0 (List.map roE l)))))) (List.drop 0 (List.map roE (deR (List.take (List.length (List.map roE l)) (List.drop 0 (List.map roE l)))))))) ≤ (9223372036854775807 : Nat) ∧ AV.bool (tbR 128 (deR (List.take (List.length (List.map roE (deR (List.take (List.length (List.map roE l)) (List.drop 0 (List.map roE l)))))) (List.drop 0 (List.map roE (deR (List.take (List.length (List.map roE l)) (List.drop 0 (List.map roE l))))))))) = r) ∧ (Decidable.decide ((↑(List.length (List.map roE l)) : Int) ≤ (24 : Int)) = false → AV.bool false = r)) := by kernel_rfl

theorem table9Cs_ok : ∀ e ∈ table9Cs, SpecOK Tryz.prog e.1 e.2 := by
  intro e he
  simp only [table9Cs, List.mem_cons, List.not_mem_nil, or_false] at he
  rcases he with rfl | rfl
  · exact of6_ok
  · exact rrtable_ok

theorem table9_ok : SpecOK Tryz.prog 4 (genSpec [pRo] table9F) := by
  refine genSpec_ok (run_ok (l := table9Cs) table9Cs_ok mixed noNG) fun l R hF => ?_
  unfold table9F at hF
  split at hF
  · rename_i r_l
    obtain ⟨hr_l, hl, hF⟩ := hF
    generalize deR r_l = l at hr_l hl hF
    subst hr_l
    refine ⟨_, hF, rfl, [.fork [] []], ?_⟩
    show run table9Cs Tryz.prog _ [.vsl 0 0 (l.map roE).length] [some ⟨false, (pRo.getD (0, 0)).1, (pRo.getD (0, 0)).2, true, (l.map roE)⟩] _ _
    rw [table9_run]
    refine ⟨fun h => ?_, fun h => ?_⟩
    · have hn : l.length ≤ 24 := by have := of_decide_eq_true h; rw [List.length_map] at this; omega
      simp only [List.length_map, take_all (rfl : l.length = l.length), deR_map, zLe, true_and, eq_true (show l.length ≤ 1000000 by omega), eq_true hl]
      unfold tb9
      rw [decide_eq_true hn]; rfl
    · have hn : ¬ l.length ≤ 24 := by have := of_decide_eq_false h; rw [List.length_map] at this; omega
      unfold tb9
      rw [decide_eq_false hn]; rfl
  · exact hF.elim


/-- The law's tables are tables. -/
theorem tb9_is {l : List Ro} (h : tb9 l = true) : l.length ≤ 24 ∧ TB 128 l := by
  unfold tb9 at h
  rw [Bool.and_eq_true, decide_eq_true_eq, tbR_iff] at h
  exact h

end Go.Proofs.YtnjbgbdcbejciaaGreat.L1
end

