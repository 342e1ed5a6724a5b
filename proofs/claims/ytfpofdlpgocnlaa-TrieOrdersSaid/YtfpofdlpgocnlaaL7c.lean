/-
  Texts in one: L7R L7Y L7V L7G L7C L7X L7S.
-/
import Derived.Test.YtfpofdlpgocnlaaL7b
import Derived.Test.YtfpofdlpgocnlaaSxIt

section
/-
  Layer 7: contracts of the program's calls on a trie's nodes: list.
-/
namespace Go.Proofs.Ytfpofdlpgocnlaa.L1
open Go.Sx Go.Sx.M

/-- A node's routes, behind those of a slice ('N': how deep it may be). -/
def listF (N : Nat) : List AV → AV → List AV → AV → (List AV → Prop) → Prop
  | m, .val (.pointer q), l, .agg [.w64 a, .w64 b, .int .i64 k], R => ∃ (t : Tr) (L : List Ro) (n : Nat), t.ptr = q ∧ t.lies m ∧ t.ok n ∧ 1 ≤ N ∧ (t ≠ .nil → 131 ≤ n + N ∧ k = (n : Int) ∧ zFrom a b n) ∧ l = L.map roE ∧ L.length + (t.list a b n).length ≤ 1000000 ∧ R ((L ++ t.list a b n).map roE)
  | _, _, _, _, _ => False

noncomputable def listCs (N : Nat) : List (FuncId × Sx.Spec) := [(48, memA 41 4 (listF N)), (42, memR [none, none] routeF), (66, genSpec [none, none, none] withF), (36, genSpec [none, none] makeF)]

def listH (q0 q1 : Option Addr) : List Hint := [.fork [] [.fork [.cell (.agg [.val (.pointer q0), .val (.pointer q1)]), .loop 3, .wrc [48], .nw, .wrc [48], .nw] [.cell (.agg [.val (.pointer q0), .val (.pointer q1)]), .loop 3, .wrc [48], .nw, .wrc [48], .nw]]]

theorem list_run (N : Nat) (m es : List AV) (q q0 q1 : Option Addr) (a b : BitVec 64) (k : Int) (es2 : List AV) : evFn (run (listCs N) Try.prog) Try.prog 48 [.val (.pointer q), .vsl 1 0 es.length, .agg [.w64 a, .w64 b, .int .i64 k]] [some ⟨false, memTy, 0, true, m⟩, some ⟨true, 41, 4, true, es⟩] (listH q0 q1) (yields (.vrow 41 4 es2)) =
    ((Option.isNone q = true → List.length es = List.length es2 ∧ some (Blk.mk true (41 : TypeId) (4 : Nat) true es) = some (Blk.mk true (41 : TypeId) (4 : Nat) true es2)) ∧ (Option.isNone q = false → ∃ (t : Tr), Tr.ptr t = q ∧ Tr.lies m t ∧ (Decidable.decide (Tr.act t ≠ (0 : Int)) = true → ((List.length es + (1 : Nat)) * (32 : Nat) ≤ (140737488355328 : Nat) ∧ List.length es + (1 : Nat) ≤ (9223372036854775807 : Nat) ∧ (0 : Nat) + (1 : Nat) ≤ List.length [AV.agg [AV.w64 (Ro.p (roV (Tr.act t) (Pf.mk a b k))).1, AV.w64 (Ro.p (roV (Tr.act t) (Pf.mk a b k))).2, AV.int IntKind.i64 (Ro.p (roV (Tr.act t) (Pf.mk a b k))).3, AV.int IntKind.i64 (roV (Tr.act t) (Pf.mk a b k)).2]] ∧ List.length es ≤ List.length es) ∧ Option.isSome q = true ∧ sure q = true ∧ mread m (shift q (0 : Nat)) true (2 : Nat) = some (AV.agg [AV.val (Value.pointer q0), AV.val (Value.pointer q1)]) ∧ inRange IntKind.i64 (k + (1 : Int)) ∧ List.length es + (1 : Nat) = List.length (List.take (List.length es) es ++ [AV.agg [AV.w64 (Ro.p (roV (Tr.act t) (Pf.mk a b k))).1, AV.w64 (Ro.p (roV (Tr.act t) (Pf.mk a b k))).2, AV.int IntKind.i64 (Ro.p (roV (Tr.act t) (Pf.mk a b k))).3, AV.int IntKind.i64 (roV (Tr.act t) (Pf.mk a b k)).2]]) ∧ ∃ (t_1 : Tr), ∃ (L : List Ro), ∃ (n : Nat), Tr.ptr t_1 = q0 ∧ Tr.lies m t_1 ∧ Tr.ok n t_1 ∧ (1 : Nat) ≤ N ∧ (t_1 ≠ Tr.nil → (131 : Nat) ≤ n + N ∧ clamp (k + (1 : Int)) = (↑n : Int) ∧ zFrom (put a k ((0 : Int) == (1 : Int)) &&& mkW (k + (1 : Int))) (put b (k - (64 : Int)) ((0 : Int) == (1 : Int)) &&& mkW (k + (1 : Int) - (64 : Int))) n) ∧ List.take (List.length es) es ++ [AV.agg [AV.w64 (Ro.p (roV (Tr.act t) (Pf.mk a b k))).1, AV.w64 (Ro.p (roV (Tr.act t) (Pf.mk a b k))).2, AV.int IntKind.i64 (Ro.p (roV (Tr.act t) (Pf.mk a b k))).3, AV.int IntKind.i64 (roV (Tr.act t) (Pf.mk a b k)).2]] = List.map roE L ∧ List.length L + List.length (Tr.list t_1 (put a k ((0 : Int) == (1 : Int)) &&& mkW (k + (1 : Int))) (put b (k - (64 : Int)) ((0 : Int) == (1 : Int)) &&& mkW (k + (1 : Int) - (64 : Int))) n) ≤ (1000000 : Nat) ∧ inRange IntKind.i64 (k + (1 : Int)) ∧ List.length (List.map roE (L ++ Tr.list t_1 (put a k ((0 : Int) == (1 : Int)) &&& mkW (k + (1 : Int))) (put b (k - (64 : Int)) ((0 : Int) == (1 : Int)) &&& mkW (k + (1 : Int) - (64 : Int))) n)) = List.length (List.map roE (L ++ Tr.list t_1 (put a k ((0 : Int) == (1 : Int)) &&& mkW (k + (1 : Int))) (put b (k - (64 : Int)) ((0 : Int) == (1 : Int)) &&& mkW (k + (1 : Int) - (64 : Int))) n)) ∧ ∃ (t : Tr), ∃ (L_1 : List Ro), ∃ (n_1 : Nat), Tr.ptr t = q1 ∧ Tr.lies m t ∧ Tr.ok n_1 t ∧ (1 : Nat) ≤ N ∧ (t ≠ Tr.nil → (131 : Nat) ≤ n_1 + N ∧ clamp (k + (1 : Int)) = (↑n_1 : Int) ∧ zFrom (put a k ((1 : Int) == (1 : Int)) &&& mkW (k + (1 : Int))) (put b (k - (64 : Int)) ((1 : Int) == (1 : Int)) &&& mkW (k + (1 : Int) - (64 : Int))) n_1) ∧ (List.map roE (L ++ Tr.list t_1 (put a k ((0 : Int) == (1 : Int)) &&& mkW (k + (1 : Int))) (put b (k - (64 : Int)) ((0 : Int) == (1 : Int)) &&& mkW (k + (1 : Int) - (64 : Int))) n)) = List.map roE L_1 ∧ List.length L_1 + List.length (Tr.list t (put a k ((1 : Int) == (1 : Int)) &&& mkW (k + (1 : Int))) (put b (k - (64 : Int)) ((1 : Int) == (1 : Int)) &&& mkW (k + (1 : Int) - (64 : Int))) n_1) ≤ (1000000 : Nat) ∧ List.length (List.map roE (L_1 ++ Tr.list t (put a k ((1 : Int) == (1 : Int)) &&& mkW (k + (1 : Int))) (put b (k - (64 : Int)) ((1 : Int) == (1 : Int)) &&& mkW (k + (1 : Int) - (64 : Int))) n_1)) = List.length es2 ∧ some (Blk.mk true (41 : TypeId) (4 : Nat) true (List.map roE (L_1 ++ Tr.list t (put a k ((1 : Int) == (1 : Int)) &&& mkW (k + (1 : Int))) (put b (k - (64 : Int)) ((1 : Int) == (1 : Int)) &&& mkW (k + (1 : Int) - (64 : Int))) n_1))) = some (Blk.mk true (41 : TypeId) (4 : Nat) true es2)) ∧ (Decidable.decide (Tr.act t ≠ (0 : Int)) = false → Option.isSome q = true ∧ sure q = true ∧ mread m (shift q (0 : Nat)) true (2 : Nat) = some (AV.agg [AV.val (Value.pointer q0), AV.val (Value.pointer q1)]) ∧ inRange IntKind.i64 (k + (1 : Int)) ∧ List.length es = List.length es ∧ ∃ (t : Tr), ∃ (L : List Ro), ∃ (n : Nat), Tr.ptr t = q0 ∧ Tr.lies m t ∧ Tr.ok n t ∧ (1 : Nat) ≤ N ∧ (t ≠ Tr.nil → (131 : Nat) ≤ n + N ∧ clamp (k + (1 : Int)) = (↑n : Int) ∧ zFrom (put a k ((0 : Int) == (1 : Int)) &&& mkW (k + (1 : Int))) (put b (k - (64 : Int)) ((0 : Int) == (1 : Int)) &&& mkW (k + (1 : Int) - (64 : Int))) n) ∧ es = List.map roE L ∧ List.length L + List.length (Tr.list t (put a k ((0 : Int) == (1 : Int)) &&& mkW (k + (1 : Int))) (put b (k - (64 : Int)) ((0 : Int) == (1 : Int)) &&& mkW (k + (1 : Int) - (64 : Int))) n) ≤ (1000000 : Nat) ∧ inRange IntKind.i64 (k + (1 : Int)) ∧ List.length (List.map roE (L ++ Tr.list t (put a k ((0 : Int) == (1 : Int)) &&& mkW (k + (1 : Int))) (put b (k - (64 : Int)) ((0 : Int) == (1 : Int)) &&& mkW (k + (1 : Int) - (64 : Int))) n)) = List.length (List.map roE (L ++ Tr.list t (put a k ((0 : Int) == (1 : Int)) &&& mkW (k + (1 : Int))) (put b (k - (64 : Int)) ((0 : Int) == (1 : Int)) &&& mkW (k + (1 : Int) - (64 : Int))) n)) ∧ ∃ (t_1 : Tr), ∃ (L_1 : List Ro), ∃ (n_1 : Nat), Tr.ptr t_1 = q1 ∧ Tr.lies m t_1 ∧ Tr.ok n_1 t_1 ∧ (1 : Nat) ≤ N ∧ (t_1 ≠ Tr.nil → (131 : Nat) ≤ n_1 + N ∧ clamp (k + (1 : Int)) = (↑n_1 : Int) ∧ zFrom (put a k ((1 : Int) == (1 : Int)) &&& mkW (k + (1 : Int))) (put b (k - (64 : Int)) ((1 : Int) == (1 : Int)) &&& mkW (k + (1 : Int) - (64 : Int))) n_1) ∧ (List.map roE (L ++ Tr.list t (put a k ((0 : Int) == (1 : Int)) &&& mkW (k + (1 : Int))) (put b (k - (64 : Int)) ((0 : Int) == (1 : Int)) &&& mkW (k + (1 : Int) - (64 : Int))) n)) = List.map roE L_1 ∧ List.length L_1 + List.length (Tr.list t_1 (put a k ((1 : Int) == (1 : Int)) &&& mkW (k + (1 : Int))) (put b (k - (64 : Int)) ((1 : Int) == (1 : Int)) &&& mkW (k + (1 : Int) - (64 : Int))) n_1) ≤ (1000000 : Nat) ∧ List.length (List.map roE (L_1 ++ Tr.list t_1 (put a k ((1 : Int) == (1 : Int)) &&& mkW (k + (1 : Int))) (put b (k - (64 : Int)) ((1 : Int) == (1 : Int)) &&& mkW (k + (1 : Int) - (64 : Int))) n_1)) = List.length es2 ∧ some (Blk.mk true (41 : TypeId) (4 : Nat) true (List.map roE (L_1 ++ Tr.list t_1 (put a k ((1 : Int) == (1 : Int)) &&& mkW (k + (1 : Int))) (put b (k - (64 : Int)) ((1 : Int) == (1 : Int)) &&& mkW (k + (1 : Int) - (64 : Int))) n_1))) = some (Blk.mk true (41 : TypeId) (4 : Nat) true es2)))) := by kernel_rfl

theorem word_in {a b : BitVec 64} {n : Nat} (hz : zFrom a b n) (_ : n < 128) (s : Bool) : ∀ i, i < 128 → bitAt (put a (n : Int) s &&& mkW ((n : Int) + 1)) (put b ((n : Int) - 64) s &&& mkW ((n : Int) + 1 - 64)) i = if i = n then s else bitAt a b i := by
  intro i hi
  rw [bitAt_cut _ _ _ hi, bitAt_put a b (n : Int) s hi]
  by_cases h : i = n
  · rw [if_pos h, if_pos (by omega), decide_eq_true (by omega), Bool.and_true]
  · rw [if_neg h, if_neg (by omega)]
    by_cases h2 : i < n
    · rw [decide_eq_true (by omega), Bool.and_true]
    · rw [hz i hi (by omega), Bool.false_and]

theorem word0 {a b : BitVec 64} {n : Nat} (hz : zFrom a b n) (hn : n < 128) : put a (n : Int) ((0 : Int) == 1) &&& mkW ((n : Int) + 1) = a ∧ put b ((n : Int) - 64) ((0 : Int) == 1) &&& mkW ((n : Int) + 1 - 64) = b :=
  bitAt_eq fun i hi => by
    rw [show ((0 : Int) == 1) = false from rfl, word_in hz hn false i hi]
    split
    · rename_i h; subst h; exact (hz i hi (Nat.le_refl _)).symm
    · rfl

theorem word1 {a b : BitVec 64} {n : Nat} (hz : zFrom a b n) (hn : n < 128) : put a (n : Int) ((1 : Int) == 1) &&& mkW ((n : Int) + 1) = onA a n ∧ put b ((n : Int) - 64) ((1 : Int) == 1) &&& mkW ((n : Int) + 1 - 64) = onB b n :=
  bitAt_eq fun i hi => by
    rw [show ((1 : Int) == 1) = true from rfl, word_in hz hn true i hi, bit_on _ _ _ hi]

theorem clamp_next {n : Nat} (hn : n < 128) : clamp ((n : Int) + 1) = ((n + 1 : Nat) : Int) := by unfold clamp; omega
theorem clamp_last {n : Nat} (hn : 128 ≤ n) : clamp ((n : Int) + 1) = ((128 : Nat) : Int) := by unfold clamp; omega

theorem node_read2 {m : List AV} {q : Addr} {x y z : AV} (hs : sure (some q) = true) (h : mread m (some q) true 3 = some (.agg [x, y, z])) : mread m (shift (some q) 0) true 2 = some (.agg [x, y]) := by
  obtain ⟨cs, h1, h2, h3⟩ := node_cells hs h
  have e := sure_some' hs
  rw [shift_some _ e, Nat.add_zero]
  unfold mread
  simp only [h1]
  rw [if_pos (by omega)]
  have : List.take 2 (List.take 3 (cs.drop q.off)) = [x, y] := by rw [h3]; rfl
  rw [List.take_take] at this
  exact congrArg (fun l => some (AV.agg l)) this

theorem roV_route {a b : BitVec 64} {n : Nat} {v : Int} (h : v ≠ 0) : (AV.agg [AV.w64 (roV v ⟨a, b, (n : Int)⟩).p.a, AV.w64 (roV v ⟨a, b, (n : Int)⟩).p.b, AV.int .i64 (roV v ⟨a, b, (n : Int)⟩).p.len, AV.int .i64 (roV v ⟨a, b, (n : Int)⟩).act]) = roE ⟨⟨a, b, (n : Int)⟩, v⟩ := by
  unfold roV
  rw [if_neg h]
  rfl

theorem list_ok' : ∀ N : Nat, SpecOK Try.prog 48 (memA 41 4 (listF N))
  | 0 => by
    refine memA_ok none_ok (by decide) fun m x l y R hF => ?_
    unfold listF at hF
    split at hF
    · obtain ⟨_, _, _, _, _, _, h, _⟩ := hF
      exact absurd h (by omega)
    · exact hF.elim
  | N + 1 => by
    have hCs : ∀ e ∈ listCs N, SpecOK Try.prog e.1 e.2 := by
      intro e he
      simp only [listCs, List.mem_cons, List.not_mem_nil, or_false] at he
      rcases he with rfl | rfl | rfl | rfl
      · exact list_ok' N
      · exact route_ok
      · exact with_ok
      · exact pmake_ok
    refine memA_ok (evFn_ok (run_ok (l := listCs N) hCs mixed noNG) mixed noNG) (by decide) fun m x l y R hF => ?_
    unfold listF at hF
    split at hF
    · rename_i q a b k
      obtain ⟨t, L, n, rfl, hl, hok, _, hN, rfl, hlen, hR⟩ := hF
      cases t with
      | nil =>
        refine ⟨_, hR, listH none none, ?_⟩
        show evFn (run (listCs N) Try.prog) Try.prog _ [.val (.pointer none), .vsl 1 0 (L.map roE).length, .agg [.w64 a, .w64 b, .int .i64 k]] [some ⟨false, memTy, 0, true, m⟩, some ⟨true, 41, 4, true, L.map roE⟩] _ _
        rw [list_run]
        rw [show (L ++ Tr.nil.list a b n) = L from List.append_nil _]
        exact ⟨fun _ => ⟨rfl, rfl⟩, fun h => by cases h⟩
      | nd qd act lt rt =>
        obtain ⟨hN, rfl, hz⟩ := hN (fun e => by cases e)
        obtain ⟨hn, hokl, hokr⟩ := hok
        obtain ⟨l1, l2, l3, l4⟩ := hl
        have hr2 := node_read2 l2 l1
        have inK : inRange .i64 ((n : Int) + 1) := inR (by omega) (by omega)
        -- what the two calls say of the trees below
        obtain ⟨n', hc', hz0, hz1, ok0, ok1, fu0, fu1, e0, e1⟩ : ∃ n' : Nat, clamp ((n : Int) + 1) = (n' : Int) ∧ zFrom (put a (n : Int) ((0 : Int) == 1) &&& mkW ((n : Int) + 1)) (put b ((n : Int) - 64) ((0 : Int) == 1) &&& mkW ((n : Int) + 1 - 64)) n' ∧
            zFrom (put a (n : Int) ((1 : Int) == 1) &&& mkW ((n : Int) + 1)) (put b ((n : Int) - 64) ((1 : Int) == 1) &&& mkW ((n : Int) + 1 - 64)) n' ∧ lt.ok n' ∧ rt.ok n' ∧ (lt ≠ .nil → 131 ≤ n' + N) ∧ (rt ≠ .nil → 131 ≤ n' + N) ∧
            lt.list (put a (n : Int) ((0 : Int) == 1) &&& mkW ((n : Int) + 1)) (put b ((n : Int) - 64) ((0 : Int) == 1) &&& mkW ((n : Int) + 1 - 64)) n' = lt.list a b (n + 1) ∧
            rt.list (put a (n : Int) ((1 : Int) == 1) &&& mkW ((n : Int) + 1)) (put b ((n : Int) - 64) ((1 : Int) == 1) &&& mkW ((n : Int) + 1 - 64)) n' = rt.list (onA a n) (onB b n) (n + 1) := by
          by_cases h : n < 128
          · obtain ⟨g1, g2⟩ := word0 hz h
            obtain ⟨g3, g4⟩ := word1 hz h
            exact ⟨n + 1, clamp_next h, by rw [g1, g2]; exact hz.succ, by rw [g3, g4]; exact hz.on, hokl, hokr, fun _ => by omega, fun _ => by omega, by rw [g1, g2], by rw [g3, g4]⟩
          · have hl0 := Tr.ok_nil (by omega) hokl
            have hr0 := Tr.ok_nil (by omega) hokr
            subst hl0; subst hr0
            exact ⟨128, clamp_last (by omega), fun i hi h => by omega, fun i hi h => by omega, trivial, trivial, fun h => absurd rfl h, fun h => absurd rfl h, rfl, rfl⟩
        have hL : (Tr.nd qd act lt rt).list a b n = (if act = 0 then [] else [⟨⟨a, b, (n : Int)⟩, act⟩]) ++ (lt.list a b (n + 1) ++ rt.list (onA a n) (onB b n) (n + 1)) := rfl
        rw [hL] at hlen hR
        refine ⟨_, hR, listH lt.ptr rt.ptr, ?_⟩
        show evFn (run (listCs N) Try.prog) Try.prog _ [.val (.pointer (some qd)), .vsl 1 0 (L.map roE).length, .agg [.w64 a, .w64 b, .int .i64 (n : Int)]] [some ⟨false, memTy, 0, true, m⟩, some ⟨true, 41, 4, true, L.map roE⟩] _ _
        rw [list_run]
        simp only [List.length_append] at hlen
        refine ⟨fun h => (by cases h), fun _ => ⟨.nd qd act lt rt, rfl, ⟨l1, l2, l3, l4⟩, fun ha => ?_, fun ha => ?_⟩⟩
        · have ha : act ≠ 0 := of_decide_eq_true ha
          rw [if_neg ha] at hlen ⊢
          have hrow : List.take (L.map roE).length (L.map roE) ++ [AV.agg [AV.w64 (roV act ⟨a, b, (n : Int)⟩).p.a, AV.w64 (roV act ⟨a, b, (n : Int)⟩).p.b, AV.int .i64 (roV act ⟨a, b, (n : Int)⟩).p.len, AV.int .i64 (roV act ⟨a, b, (n : Int)⟩).act]] = (L ++ [(⟨⟨a, b, (n : Int)⟩, act⟩ : Ro)]).map roE := by
            rw [List.take_length, roV_route ha, List.map_append]; rfl
          simp only [List.length_singleton] at hlen
          refine ⟨⟨by rw [List.length_map]; omega, by rw [List.length_map]; omega, by simp, Nat.le_refl _⟩, rfl, l2, hr2, inK, by simp, lt, L ++ [(⟨⟨a, b, (n : Int)⟩, act⟩ : Ro)], n', rfl, l3, ok0, by omega, fun h => ⟨fu0 h, hc', hz0⟩, hrow, by rw [e0]; simp only [List.length_append, List.length_singleton]; omega, inK, rfl, rt, (L ++ [(⟨⟨a, b, (n : Int)⟩, act⟩ : Ro)]) ++ lt.list a b (n + 1), n', rfl, l4, ok1, by omega, fun h => ⟨fu1 h, hc', hz1⟩, by rw [e0], by rw [e1]; simp only [List.length_append, List.length_singleton]; omega, ?_, ?_⟩
          · rw [e1]; simp
          · rw [e1]; simp
        · have ha : act = 0 := Decidable.of_not_not (of_decide_eq_false ha)
          rw [if_pos ha] at hlen ⊢
          simp only [List.length_nil] at hlen
          refine ⟨rfl, l2, hr2, inK, rfl, lt, L, n', rfl, l3, ok0, by omega, fun h => ⟨fu0 h, hc', hz0⟩, rfl, by rw [e0]; omega, inK, rfl, rt, L ++ lt.list a b (n + 1), n', rfl, l4, ok1, by omega, fun h => ⟨fu1 h, hc', hz1⟩, by rw [e0], by rw [e1]; simp only [List.length_append]; omega, ?_, ?_⟩
          · rw [e1]; simp
          · rw [e1]; simp
    · exact hF.elim

theorem list_ok : SpecOK Try.prog 48 (memA 41 4 (listF 200)) := list_ok' 200

end Go.Proofs.Ytfpofdlpgocnlaa.L1
end

section
/-
  Layer 7: the iterators: over a slice, over a trie's routes, over the routes on a way.
-/
namespace Go.Proofs.Ytfpofdlpgocnlaa.L1
open Go.Sx Go.Sx.M

theorem noGlob : ∀ (B : Gd) (w : World), GlobOK B w := fun _ _ _ h => by cases h

def fnBox : Option Blk := some ⟨false, 95, 1, false, [.func (.func 65) [] [.ptr 3 0 0 true]]⟩
def slBox (n : Nat) : Option Blk := some ⟨false, 30, 1, false, [.vsl 4 0 n]⟩

/-- The rows that an iterator over a slice of routes reads. -/
def vaHp (l : List Ro) : Hp := [none, none, fnBox, slBox l.length, some ⟨false, 41, 4, true, l.map roE⟩]

def vaSt (y : Nat) (l : List Ro) (p : Nat) : St := ⟨[.func (.yield y) [] [], .ptr 3 0 0 true, .any, .any, .any, .vsl 4 0 l.length, .int .i64 l.length, .int .i64 p, .any, .any, .any, .any, .any, .any, .any, .any], vaHp l⟩
def vaM0 : Modes := ⟨[1, 1, 0, 0, 0, 1, 2, 2, 0, 0, 0, 0, 0, 0, 0, 0], [], [], [], []⟩
def vaM : Modes := ⟨[1, 1, 0, 0, 0, 1, 1, 2, 0, 0, 0, 0, 0, 0, 0, 0], [], [], [], []⟩
def vaH (y : Nat) (l : List Ro) : List Hint := [.linv Nat 0 (vaSt y l) (fun p => p ≤ l.length) (fun p => l.length - p) vaM0 vaM vaM (fun p => [.ix p]) fun p => [.fork [.dy, .cell (roE (at' l p)), .fork [.nw] []] []]]

def noIt : FuncId → List AV → Hp → List AV → Prop := fun _ _ _ _ => False

theorem values_run (y : Nat) (l : List Ro) : evFnIt (run [] Try.prog) Try.prog noIt 65 [.ptr 3 0 0 true] (vaHp l) (l.map roE) y (vaH y l) =
    ((St.mk [AV.func (Fn.yield y) [] [], AV.ptr ((0 : Nat) + (1 : Nat) + (1 : Nat) + (1 : Nat)) (0 : Nat) (0 : Nat) true, AV.any, AV.any, AV.any, AV.vsl ((0 : Nat) + (1 : Nat) + (1 : Nat) + (1 : Nat) + (1 : Nat)) (0 : Nat) (List.length l), AV.int IntKind.i64 (↑(List.length l) : Int), AV.int IntKind.i64 (0 : Int), AV.any, AV.any, AV.any, AV.any, AV.any, AV.any, AV.any, AV.any] [none, none, some (Blk.mk false (nat_lit 95) (1 : Nat) false [AV.func (Fn.func (65 : FuncId)) [] [AV.ptr ((0 : Nat) + (1 : Nat) + (1 : Nat) + (1 : Nat)) (0 : Nat) (0 : Nat) true]]), some (Blk.mk false (nat_lit 30) (1 : Nat) false [AV.vsl ((0 : Nat) + (1 : Nat) + (1 : Nat) + (1 : Nat) + (1 : Nat)) (0 : Nat) (List.length l)]), some (Blk.mk false (nat_lit 41) (4 : Nat) true (List.map roE l))] = vaSt y l (0 : Nat) ∧ Nat.le (0 : Nat) (List.length l) ∧ (0 : Nat) = (0 : Nat)) ∧ ∀ (p : Nat), Nat.le p (List.length l) → (Decidable.decide ((↑p : Int) < (↑(List.length l) : Int)) = true → ((0 : Int) ≤ (↑p : Int) ∧ (↑p : Int) < (↑(List.length l) : Int)) ∧ Blk.read Proofs.Try.prog (Blk.mk false (nat_lit 41) (4 : Nat) true (List.map roE l)) (41 : Nat) ((0 : Nat) + Int.toNat (↑p : Int)) (0 : Nat) = some (AV.agg [AV.w64 (Ro.p (at' l p)).1, AV.w64 (Ro.p (at' l p)).2, AV.int IntKind.i64 (Ro.p (at' l p)).3, AV.int IntKind.i64 (at' l p).2]) ∧ y = y ∧ true = true ∧ (List.map roE l)[p]? = some (AV.agg [AV.w64 (Ro.p (at' l p)).1, AV.w64 (Ro.p (at' l p)).2, AV.int IntKind.i64 (Ro.p (at' l p)).3, AV.int IntKind.i64 (at' l p).2]) ∧ (inRange IntKind.i64 ((↑p : Int) + (1 : Int)) ∧ ∃ (p' : Nat), St.mk [AV.func (Fn.yield y) [] [], AV.ptr ((0 : Nat) + (1 : Nat) + (1 : Nat) + (1 : Nat)) (0 : Nat) (0 : Nat) true, AV.any, AV.any, AV.any, AV.vsl ((0 : Nat) + (1 : Nat) + (1 : Nat) + (1 : Nat) + (1 : Nat)) (0 : Nat) (List.length l), AV.int IntKind.i64 (↑(List.length l) : Int), AV.int IntKind.i64 ((↑p : Int) + (1 : Int)), AV.any, AV.any, AV.any, AV.any, AV.any, AV.any, AV.any, AV.any] [none, none, some (Blk.mk false (nat_lit 95) (1 : Nat) false [AV.func (Fn.func (65 : FuncId)) [] [AV.ptr ((0 : Nat) + (1 : Nat) + (1 : Nat) + (1 : Nat)) (0 : Nat) (0 : Nat) true]]), some (Blk.mk false (nat_lit 30) (1 : Nat) false [AV.vsl ((0 : Nat) + (1 : Nat) + (1 : Nat) + (1 : Nat) + (1 : Nat)) (0 : Nat) (List.length l)]), some (Blk.mk false (nat_lit 41) (4 : Nat) true (List.map roE l))] = vaSt y l p' ∧ Nat.le p' (List.length l) ∧ p' = p + (1 : Nat) ∧ List.length l - p' < List.length l - p) ∧ ((1 : Nat) = (0 : Nat) → p + (1 : Nat) = List.length (List.map roE l))) ∧ (Decidable.decide ((↑p : Int) < (↑(List.length l) : Int)) = false → (0 : Nat) = (0 : Nat) → p = List.length (List.map roE l))) := by kernel_rfl

theorem roE_get {l : List Ro} {p : Nat} (h : p < l.length) : (l.map roE)[p]? = some (roE (at' l p)) := by
  rw [List.getElem?_map, at_get h]
  rfl

theorem roE_pures (l : List Ro) : ∀ x ∈ l.map roE, x.pure2 = true := by
  intro x hx
  obtain ⟨r, _, rfl⟩ := List.mem_map.1 hx
  rfl

theorem roE_vals : ∀ l : List Ro, ∃ us, AVRs [] (l.map roE) us
  | [] => ⟨[], .nil⟩
  | x :: l => by
    obtain ⟨us, h⟩ := roE_vals l
    exact ⟨_, .cons (.agg (.cons (.w64 _) (.cons (.w64 _) (.cons (.int _ _) (.cons (.int _ _) .nil))))) h⟩

theorem noIt_ok (g : FuncId) (caps : List AV) (h : Hp) (xs : List AV) (hi : noIt g caps h xs) : ItOK Try.prog g caps h xs := False.elim hi

theorem values_it {l : List Ro} (hl : (l.length : Int) < 1000000) : ItOK Try.prog 65 [.ptr 3 0 0 true] (vaHp l) (l.map roE) := by
  refine itOK_of (C := run [] Try.prog) (It := noIt) none_ok mixed noNG noGlob rfl noIt_ok (roE_pures l) (roE_vals l) fun y => ⟨vaH y l, ?_⟩
  rw [values_run]
  refine ⟨⟨rfl, Nat.zero_le _, rfl⟩, fun p hp => ⟨fun h => ?_, fun h => ?_⟩⟩
  · have h : (p : Int) < (l.length : Int) := by simpa using h
    have h' : p < l.length := by omega
    refine ⟨⟨by omega, by omega⟩, read_rows (k := (p : Int)) (by omega) (by rw [List.length_map]; omega) (ro_whole _), rfl, rfl, roE_get h', ⟨inR (by omega) (by omega), p + 1, rfl, Nat.succ_le_of_lt h', rfl, by omega⟩, fun h => by cases h⟩
  · have h : ¬ (p : Int) < (l.length : Int) := by simpa using h
    have hp : p ≤ l.length := hp
    rw [List.length_map]
    intro _
    omega

theorem walk_it_run (y : Nat) (l : List Ro) : evFnIt (run [] Try.prog) Try.prog (ItOK Try.prog) 49 [.ptr 2 0 0 true] (vaHp l) (l.map roE) y [] =
    (y = y ∧ (0 : Nat) = (0 : Nat) ∧ ItOK Proofs.Try.prog (65 : FuncId) [AV.ptr (3 : Nat) (0 : Nat) (0 : Nat) true] [none, none, some (Blk.mk false (nat_lit 95) (1 : Nat) false [AV.func (Fn.func (65 : FuncId)) [] [AV.ptr (3 : Nat) (0 : Nat) (0 : Nat) true]]), some (Blk.mk false (nat_lit 30) (1 : Nat) false [AV.vsl (4 : Nat) (0 : Nat) (List.length l)]), some (Blk.mk false (nat_lit 41) (4 : Nat) true (List.map roE l))] (List.map roE l) ∧ ((2 : Nat) = (0 : Nat) → List.length (List.map roE l) = List.length (List.map roE l)) ∧ ∀ (j : Nat), j ≤ List.length (List.map roE l) → (1 : Nat) = (0 : Nat) → j = List.length (List.map roE l)) := by kernel_rfl

theorem walk_it {l : List Ro} (hl : (l.length : Int) < 1000000) : ItOK Try.prog 49 [.ptr 2 0 0 true] (vaHp l) (l.map roE) := by
  refine itOK_of (C := run [] Try.prog) (It := ItOK Try.prog) none_ok mixed noNG noGlob rfl (fun _ _ _ _ h => h) (roE_pures l) (roE_vals l) fun y => ⟨[], ?_⟩
  rw [walk_it_run]
  exact ⟨rfl, rfl, values_it hl, fun _ => rfl, fun _ _ h => (by cases h)⟩

end Go.Proofs.Ytfpofdlpgocnlaa.L1
end

section
/-
  Layer 7: contracts of the program's calls on a trie: Table, the longest of the routes that match.
-/
namespace Go.Proofs.Ytfpofdlpgocnlaa.L1
open Go.Sx Go.Sx.M

/-- A trie in raw memory, and its table. -/
structure TrT (w : Int) (nb : Nat) (m : List AV) (t : Tr) (L : List Ro) : Prop where
  v : ∃ len nds, TrV w nb len nds t m
  list : t.list 0#64 0#64 0 = L
  tb : TB w L

theorem TrT.ok {w : Int} {nb : Nat} {m : List AV} {t : Tr} {L : List Ro} (h : TrT w nb m t L) : t.ok 0 := by
  obtain ⟨len, nds, hV⟩ := h.v
  obtain ⟨act, l, r, rfl, _, _, f1, f2⟩ := hV.root
  have hl := h.list
  have h128 : ∀ x ∈ L, x.p.len ≤ 128 := fun x hx => by
    exact (h.tb.len hx).2
  have hL : (Tr.nd ⟨nb, 1, none⟩ act l r).list 0#64 0#64 0 = (if act = 0 then [] else [⟨⟨0#64, 0#64, 0⟩, act⟩]) ++ (l.list 0#64 0#64 1 ++ r.list (onA 0#64 0) (onB 0#64 0) 1) := rfl
  rw [hL] at hl
  refine ⟨by omega, Tr.ok_of l f1 (a := 0#64) (b := 0#64) fun x hx => h128 x ?_, Tr.ok_of r f2 (a := onA 0#64 0) (b := onB 0#64 0) fun x hx => h128 x ?_⟩
  · rw [← hl]; exact List.mem_append_right _ (List.mem_append_left _ hx)
  · rw [← hl]; exact List.mem_append_right _ (List.mem_append_right _ hx)

theorem ri_zero {w : Int} (h : w = 32 ∨ w = 128) : riP w ⟨0#64, 0#64, 0⟩ = true := by
  exact riP_iff.2 ⟨h, Int.le_refl _, (by rcases h with rfl | rfl <;> decide), fun i _ _ => bitAt_zero i⟩

theorem zFrom_zero : zFrom 0#64 0#64 0 := fun i _ _ => bitAt_zero i

theorem take_roE (l : List Ro) : (l.map roE).take l.length = l.map roE := List.take_of_length_le (by rw [List.length_map]; exact Nat.le_refl _)

noncomputable def tableCs : List (FuncId × Sx.Spec) := [(41, memR [none, none] atF), (48, memA 41 4 (listF 200))]

/-- Walk's state behind its calls, within Table. -/
def wkSt (m : List AV) (l : List Ro) : St := ⟨[.any, .any, .any, .any, .any, .ptr 2 0 0 true, .any, .any, .any, .any, .any, .any, .any], [some ⟨false, memTy, 0, true, m⟩, some ⟨true, 30, 1, true, [.lit (.slice none 0 0)]⟩, some ⟨true, 95, 1, false, [.func (.func 65) [] [.ptr 3 0 0 true]]⟩,
    some ⟨true, 30, 1, false, [.vsl 4 0 l.length]⟩, some ⟨true, 41, 4, true, l.map roE⟩]⟩

/-- The rows between two rounds of Table's loop. -/
def tbHp (m : List AV) (l : List Ro) (pre : List Ro) : Hp :=
  [some ⟨false, memTy, 0, true, m⟩, some ⟨true, 30, 1, false, [.vsl 5 0 pre.length]⟩, some ⟨false, 95, 1, false, [.func (.func 65) [] [.ptr 3 0 0 true]]⟩,
    some ⟨false, 30, 1, false, [.vsl 4 0 l.length]⟩, some ⟨false, 41, 4, true, l.map roE⟩, some ⟨true, 41, 4, true, pre.map roE⟩]

theorem table_run (nb : Nat) (m : List AV) (l : List Ro) (es2 : List AV) : run tableCs Try.prog 13 [.val (.pointer (some ⟨nb, 0, none⟩))] [some ⟨false, memTy, 0, true, m⟩] [.mrg true Unit (fun _ => wkSt m l) (fun _ => True) (keepM 13 [5]) [.wrc [48]] (fun _ => []), .rng Ro roE l [2, 3, 4] [(1, 41, 4)] (tbHp m l) (fun _ => True) [1] [1] (fun _ _ => [])] (yields (.vrow 41 4 es2)) =
    (((∃ (w : Int), ∃ (nb_1 : Nat), ∃ (len : Int), ∃ (nds : Int), ∃ (t : Tr), TrV w nb_1 len nds t m ∧ some (Addr.mk nb (0 : Nat) none) = some (Addr.mk nb_1 (0 : Nat) none) ∧ (∃ (t_1 : Tr), ∃ (L : List Ro), ∃ (n : Nat), (Tr.ptr t_1 = if riP w (Pf.mk (BitVec.ofInt (64 : Nat) (0 : Int)) (BitVec.ofInt (64 : Nat) (0 : Int)) (0 : Int)) = true then Tr.ptr (Tr.sub (bitAt (BitVec.ofInt (64 : Nat) (0 : Int)) (BitVec.ofInt (64 : Nat) (0 : Int))) (0 : Nat) (Int.toNat (0 : Int)) t) else none) ∧ Tr.lies m t_1 ∧ Tr.ok n t_1 ∧ (1 : Nat) ≤ (200 : Nat) ∧ (t_1 ≠ Tr.nil → (131 : Nat) ≤ n + (200 : Nat) ∧ (0 : Int) = (↑n : Int) ∧ zFrom (BitVec.ofInt (64 : Nat) (0 : Int)) (BitVec.ofInt (64 : Nat) (0 : Int)) n) ∧ [] = List.map roE L ∧ List.length L + List.length (Tr.list t_1 (BitVec.ofInt (64 : Nat) (0 : Int)) (BitVec.ofInt (64 : Nat) (0 : Int)) n) ≤ (1000000 : Nat) ∧ (∃ (_ : Unit), St.mk [AV.any, AV.any, AV.any, AV.any, AV.any, AV.ptr ((0 : Nat) + (1 : Nat) + (1 : Nat)) (0 : Nat) (0 : Nat) true, AV.any, AV.any, AV.any, AV.any, AV.any, AV.any, AV.any] [some (Blk.mk false (nat_lit 1000003) (0 : Nat) true m), some (Blk.mk true (30 : Nat) (1 : Nat) true [AV.lit (Value.slice none (0 : Nat) (0 : Nat))]), some (Blk.mk true (nat_lit 95) (1 : Nat) false [AV.func (Fn.func (65 : Nat)) [] [AV.ptr ((0 : Nat) + (1 : Nat) + (1 : Nat) + (1 : Nat)) (0 : Nat) (0 : Nat) true]]), some (Blk.mk true (nat_lit 30) (1 : Nat) false [AV.vsl ((0 : Nat) + (1 : Nat) + (1 : Nat) + (1 : Nat) + (1 : Nat)) (0 : Nat) (List.length (List.map roE (L ++ Tr.list t_1 (BitVec.ofInt (64 : Nat) (0 : Int)) (BitVec.ofInt (64 : Nat) (0 : Int)) n)))]), some (Blk.mk true (41 : TypeId) (4 : Nat) true (List.map roE (L ++ Tr.list t_1 (BitVec.ofInt (64 : Nat) (0 : Int)) (BitVec.ofInt (64 : Nat) (0 : Int)) n)))] = St.mk [AV.any, AV.any, AV.any, AV.any, AV.any, AV.ptr (2 : Nat) (0 : Nat) (0 : Nat) true, AV.any, AV.any, AV.any, AV.any, AV.any, AV.any, AV.any] [some (Blk.mk false (nat_lit 1000003) (0 : Nat) true m), some (Blk.mk true (30 : TypeId) (1 : Nat) true [AV.lit (Value.slice none (0 : Nat) (0 : Nat))]), some (Blk.mk true (95 : TypeId) (1 : Nat) false [AV.func (Fn.func (65 : FuncId)) [] [AV.ptr (3 : Nat) (0 : Nat) (0 : Nat) true]]), some (Blk.mk true (30 : TypeId) (1 : Nat) false [AV.vsl (4 : Nat) (0 : Nat) (List.length l)]), some (Blk.mk true (41 : TypeId) (4 : Nat) true (List.map roE l))] ∧ True) ∧ ∃ (_ : Unit), St.mk [AV.any, AV.any, AV.any, AV.any, AV.any, AV.ptr ((0 : Nat) + (1 : Nat) + (1 : Nat)) (0 : Nat) (0 : Nat) true, AV.any, AV.any, AV.any, AV.any, AV.any, AV.any, AV.any] [some (Blk.mk false (nat_lit 1000003) (0 : Nat) true m), some (Blk.mk true (30 : Nat) (1 : Nat) true [AV.lit (Value.slice none (0 : Nat) (0 : Nat))]), some (Blk.mk true (nat_lit 95) (1 : Nat) false [AV.func (Fn.func (65 : Nat)) [] [AV.ptr ((0 : Nat) + (1 : Nat) + (1 : Nat) + (1 : Nat)) (0 : Nat) (0 : Nat) true]]), some (Blk.mk true (nat_lit 30) (1 : Nat) false [AV.vsl ((0 : Nat) + (1 : Nat) + (1 : Nat) + (1 : Nat) + (1 : Nat)) (0 : Nat) (List.length (List.map roE (L ++ Tr.list t_1 (BitVec.ofInt (64 : Nat) (0 : Int)) (BitVec.ofInt (64 : Nat) (0 : Int)) n)))]), some (Blk.mk true (41 : TypeId) (4 : Nat) true (List.map roE (L ++ Tr.list t_1 (BitVec.ofInt (64 : Nat) (0 : Int)) (BitVec.ofInt (64 : Nat) (0 : Int)) n)))] = St.mk [AV.any, AV.any, AV.any, AV.any, AV.any, AV.ptr (2 : Nat) (0 : Nat) (0 : Nat) true, AV.any, AV.any, AV.any, AV.any, AV.any, AV.any, AV.any] [some (Blk.mk false (nat_lit 1000003) (0 : Nat) true m), some (Blk.mk true (30 : TypeId) (1 : Nat) true [AV.lit (Value.slice none (0 : Nat) (0 : Nat))]), some (Blk.mk true (95 : TypeId) (1 : Nat) false [AV.func (Fn.func (65 : FuncId)) [] [AV.ptr (3 : Nat) (0 : Nat) (0 : Nat) true]]), some (Blk.mk true (30 : TypeId) (1 : Nat) false [AV.vsl (4 : Nat) (0 : Nat) (List.length l)]), some (Blk.mk true (41 : TypeId) (4 : Nat) true (List.map roE l))] ∧ True) ∧ ∃ (t_1 : Tr), ∃ (L : List Ro), ∃ (n : Nat), (Tr.ptr t_1 = if riP w (Pf.mk (BitVec.ofInt (64 : Nat) (0 : Int)) (BitVec.ofInt (64 : Nat) (0 : Int)) (0 : Int)) = true then Tr.ptr (Tr.sub (bitAt (BitVec.ofInt (64 : Nat) (0 : Int)) (BitVec.ofInt (64 : Nat) (0 : Int))) (0 : Nat) (Int.toNat (0 : Int)) t) else none) ∧ Tr.lies m t_1 ∧ Tr.ok n t_1 ∧ (1 : Nat) ≤ (200 : Nat) ∧ (t_1 ≠ Tr.nil → (131 : Nat) ≤ n + (200 : Nat) ∧ (0 : Int) = (↑n : Int) ∧ zFrom (BitVec.ofInt (64 : Nat) (0 : Int)) (BitVec.ofInt (64 : Nat) (0 : Int)) n) ∧ [] = List.map roE L ∧ List.length L + List.length (Tr.list t_1 (BitVec.ofInt (64 : Nat) (0 : Int)) (BitVec.ofInt (64 : Nat) (0 : Int)) n) ≤ (1000000 : Nat) ∧ ∃ (_ : Unit), St.mk [AV.any, AV.any, AV.any, AV.any, AV.any, AV.ptr ((0 : Nat) + (1 : Nat) + (1 : Nat)) (0 : Nat) (0 : Nat) true, AV.any, AV.any, AV.any, AV.any, AV.any, AV.any, AV.any] [some (Blk.mk false (nat_lit 1000003) (0 : Nat) true m), some (Blk.mk true (30 : Nat) (1 : Nat) true [AV.lit (Value.slice none (0 : Nat) (0 : Nat))]), some (Blk.mk true (nat_lit 95) (1 : Nat) false [AV.func (Fn.func (65 : Nat)) [] [AV.ptr ((0 : Nat) + (1 : Nat) + (1 : Nat) + (1 : Nat)) (0 : Nat) (0 : Nat) true]]), some (Blk.mk true (nat_lit 30) (1 : Nat) false [AV.vsl ((0 : Nat) + (1 : Nat) + (1 : Nat) + (1 : Nat) + (1 : Nat)) (0 : Nat) (List.length (List.map roE (L ++ Tr.list t_1 (BitVec.ofInt (64 : Nat) (0 : Int)) (BitVec.ofInt (64 : Nat) (0 : Int)) n)))]), some (Blk.mk true (41 : TypeId) (4 : Nat) true (List.map roE (L ++ Tr.list t_1 (BitVec.ofInt (64 : Nat) (0 : Int)) (BitVec.ofInt (64 : Nat) (0 : Int)) n)))] = St.mk [AV.any, AV.any, AV.any, AV.any, AV.any, AV.ptr (2 : Nat) (0 : Nat) (0 : Nat) true, AV.any, AV.any, AV.any, AV.any, AV.any, AV.any, AV.any] [some (Blk.mk false (nat_lit 1000003) (0 : Nat) true m), some (Blk.mk true (30 : TypeId) (1 : Nat) true [AV.lit (Value.slice none (0 : Nat) (0 : Nat))]), some (Blk.mk true (95 : TypeId) (1 : Nat) false [AV.func (Fn.func (65 : FuncId)) [] [AV.ptr (3 : Nat) (0 : Nat) (0 : Nat) true]]), some (Blk.mk true (30 : TypeId) (1 : Nat) false [AV.vsl (4 : Nat) (0 : Nat) (List.length l)]), some (Blk.mk true (41 : TypeId) (4 : Nat) true (List.map roE l))] ∧ True) ∧ ∃ (w : Int), ∃ (nb_1 : Nat), ∃ (len : Int), ∃ (nds : Int), ∃ (t : Tr), TrV w nb_1 len nds t m ∧ some (Addr.mk nb (0 : Nat) none) = some (Addr.mk nb_1 (0 : Nat) none) ∧ ∃ (t_1 : Tr), ∃ (L : List Ro), ∃ (n : Nat), (Tr.ptr t_1 = if riP w (Pf.mk (BitVec.ofInt (64 : Nat) (0 : Int)) (BitVec.ofInt (64 : Nat) (0 : Int)) (0 : Int)) = true then Tr.ptr (Tr.sub (bitAt (BitVec.ofInt (64 : Nat) (0 : Int)) (BitVec.ofInt (64 : Nat) (0 : Int))) (0 : Nat) (Int.toNat (0 : Int)) t) else none) ∧ Tr.lies m t_1 ∧ Tr.ok n t_1 ∧ (1 : Nat) ≤ (200 : Nat) ∧ (t_1 ≠ Tr.nil → (131 : Nat) ≤ n + (200 : Nat) ∧ (0 : Int) = (↑n : Int) ∧ zFrom (BitVec.ofInt (64 : Nat) (0 : Int)) (BitVec.ofInt (64 : Nat) (0 : Int)) n) ∧ [] = List.map roE L ∧ List.length L + List.length (Tr.list t_1 (BitVec.ofInt (64 : Nat) (0 : Int)) (BitVec.ofInt (64 : Nat) (0 : Int)) n) ≤ (1000000 : Nat) ∧ ∃ (_ : Unit), St.mk [AV.any, AV.any, AV.any, AV.any, AV.any, AV.ptr ((0 : Nat) + (1 : Nat) + (1 : Nat)) (0 : Nat) (0 : Nat) true, AV.any, AV.any, AV.any, AV.any, AV.any, AV.any, AV.any] [some (Blk.mk false (nat_lit 1000003) (0 : Nat) true m), some (Blk.mk true (30 : Nat) (1 : Nat) true [AV.lit (Value.slice none (0 : Nat) (0 : Nat))]), some (Blk.mk true (nat_lit 95) (1 : Nat) false [AV.func (Fn.func (65 : Nat)) [] [AV.ptr ((0 : Nat) + (1 : Nat) + (1 : Nat) + (1 : Nat)) (0 : Nat) (0 : Nat) true]]), some (Blk.mk true (nat_lit 30) (1 : Nat) false [AV.vsl ((0 : Nat) + (1 : Nat) + (1 : Nat) + (1 : Nat) + (1 : Nat)) (0 : Nat) (List.length (List.map roE (L ++ Tr.list t_1 (BitVec.ofInt (64 : Nat) (0 : Int)) (BitVec.ofInt (64 : Nat) (0 : Int)) n)))]), some (Blk.mk true (41 : TypeId) (4 : Nat) true (List.map roE (L ++ Tr.list t_1 (BitVec.ofInt (64 : Nat) (0 : Int)) (BitVec.ofInt (64 : Nat) (0 : Int)) n)))] = St.mk [AV.any, AV.any, AV.any, AV.any, AV.any, AV.ptr (2 : Nat) (0 : Nat) (0 : Nat) true, AV.any, AV.any, AV.any, AV.any, AV.any, AV.any, AV.any] [some (Blk.mk false (nat_lit 1000003) (0 : Nat) true m), some (Blk.mk true (30 : TypeId) (1 : Nat) true [AV.lit (Value.slice none (0 : Nat) (0 : Nat))]), some (Blk.mk true (95 : TypeId) (1 : Nat) false [AV.func (Fn.func (65 : FuncId)) [] [AV.ptr (3 : Nat) (0 : Nat) (0 : Nat) true]]), some (Blk.mk true (30 : TypeId) (1 : Nat) false [AV.vsl (4 : Nat) (0 : Nat) (List.length l)]), some (Blk.mk true (41 : TypeId) (4 : Nat) true (List.map roE l))] ∧ True) ∧ ∀ (_ : Unit), True → ([some (Blk.mk false (nat_lit 1000003) (0 : Nat) true m), some (Blk.mk true (nat_lit 30) (1 : Nat) false [AV.vsl ((0 : Nat) + (1 : Nat) + (1 : Nat) + (1 : Nat) + (1 : Nat) + (1 : Nat)) (0 : Nat) (0 : Nat)]), some (Blk.mk false (nat_lit 95) (1 : Nat) false [AV.func (Fn.func (65 : FuncId)) [] [AV.ptr ((0 : Nat) + (1 : Nat) + (1 : Nat) + (1 : Nat)) (0 : Nat) (0 : Nat) true]]), some (Blk.mk false (nat_lit 30) (1 : Nat) false [AV.vsl ((0 : Nat) + (1 : Nat) + (1 : Nat) + (1 : Nat) + (1 : Nat)) (0 : Nat) (List.length l)]), some (Blk.mk false (nat_lit 41) (4 : Nat) true (List.map roE l)), some (Blk.mk true (41 : TypeId) (4 : Nat) true [])] = [some (Blk.mk false (nat_lit 1000003) (0 : Nat) true m), some (Blk.mk true (30 : TypeId) (1 : Nat) false [AV.vsl (5 : Nat) (0 : Nat) (List.length ([] : List AV))]), some (Blk.mk false (95 : TypeId) (1 : Nat) false [AV.func (Fn.func (65 : FuncId)) [] [AV.ptr (3 : Nat) (0 : Nat) (0 : Nat) true]]), some (Blk.mk false (30 : TypeId) (1 : Nat) false [AV.vsl (4 : Nat) (0 : Nat) (List.length l)]), some (Blk.mk false (41 : TypeId) (4 : Nat) true (List.map roE l)), some (Blk.mk true (41 : TypeId) (4 : Nat) true [])] ∧ True) ∧ ItOK Proofs.Try.prog (49 : Nat) [AV.ptr (2 : Nat) (0 : Nat) (0 : Nat) true] [none, none, some (Blk.mk true (95 : TypeId) (1 : Nat) false [AV.func (Fn.func (65 : FuncId)) [] [AV.ptr (3 : Nat) (0 : Nat) (0 : Nat) true]]), some (Blk.mk true (30 : TypeId) (1 : Nat) false [AV.vsl (4 : Nat) (0 : Nat) (List.length l)]), some (Blk.mk true (41 : TypeId) (4 : Nat) true (List.map roE l))] (List.map roE l) ∧ (∀ (pre : List Ro) (x : Ro), List.length pre < List.length l → True → ((List.length pre + (1 : Nat)) * (32 : Nat) ≤ (140737488355328 : Nat) ∧ List.length pre + (1 : Nat) ≤ (9223372036854775807 : Nat) ∧ (0 : Nat) + (1 : Nat) ≤ List.length [AV.agg [AV.w64 (Ro.p x).1, AV.w64 (Ro.p x).2, AV.int IntKind.i64 (Ro.p x).3, AV.int IntKind.i64 x.2]] ∧ List.length pre ≤ List.length (List.map roE pre)) ∧ [some (Blk.mk false (nat_lit 1000003) (0 : Nat) true m), some (Blk.mk true (nat_lit 30) (1 : Nat) false [AV.vsl ((0 : Nat) + (1 : Nat) + (1 : Nat) + (1 : Nat) + (1 : Nat) + (1 : Nat)) (0 : Nat) (List.length pre + (1 : Nat))]), some (Blk.mk false (nat_lit 95) (1 : Nat) false [AV.func (Fn.func (65 : FuncId)) [] [AV.ptr ((0 : Nat) + (1 : Nat) + (1 : Nat) + (1 : Nat)) (0 : Nat) (0 : Nat) true]]), some (Blk.mk false (nat_lit 30) (1 : Nat) false [AV.vsl ((0 : Nat) + (1 : Nat) + (1 : Nat) + (1 : Nat) + (1 : Nat)) (0 : Nat) (List.length l)]), some (Blk.mk false (41 : TypeId) (4 : Nat) true (List.map roE l)), some (Blk.mk true (41 : Nat) (4 : Nat) true (List.take (List.length pre) (List.map roE pre) ++ [AV.agg [AV.w64 (Ro.p x).1, AV.w64 (Ro.p x).2, AV.int IntKind.i64 (Ro.p x).3, AV.int IntKind.i64 x.2]]))] = [some (Blk.mk false (nat_lit 1000003) (0 : Nat) true m), some (Blk.mk true (30 : TypeId) (1 : Nat) false [AV.vsl (5 : Nat) (0 : Nat) (List.length (pre ++ [x]))]), some (Blk.mk false (95 : TypeId) (1 : Nat) false [AV.func (Fn.func (65 : FuncId)) [] [AV.ptr (3 : Nat) (0 : Nat) (0 : Nat) true]]), some (Blk.mk false (30 : TypeId) (1 : Nat) false [AV.vsl (4 : Nat) (0 : Nat) (List.length l)]), some (Blk.mk false (41 : TypeId) (4 : Nat) true (List.map roE l)), some (Blk.mk true (41 : TypeId) (4 : Nat) true (List.map roE (pre ++ [x])))] ∧ True) ∧ (True → List.length l = List.length es2 ∧ some (Blk.mk true (41 : TypeId) (4 : Nat) true (List.map roE l)) = some (Blk.mk true (41 : TypeId) (4 : Nat) true es2))) := by kernel_rfl

theorem tableCs_ok : ∀ e ∈ tableCs, SpecOK Try.prog e.1 e.2 := by
  intro e he
  simp only [tableCs, List.mem_cons, List.not_mem_nil, or_false] at he
  rcases he with rfl | rfl
  · exact at_ok
  · exact list_ok

theorem walk_it' {l : List Ro} (hl : (l.length : Int) < 1000000) : ItOK Try.prog 49 [.ptr 2 0 0 true] [none, none, some ⟨true, 95, 1, false, [.func (.func 65) [] [.ptr 3 0 0 true]]⟩,
    some ⟨true, 30, 1, false, [.vsl 4 0 l.length]⟩, some ⟨true, 41, 4, true, l.map roE⟩] (l.map roE) := itOK_thaw rfl (walk_it hl)

def tableF : List AV → List Arg → (Res → Prop) → Prop
  | m, [.v (.val (.pointer q))], R => ∃ (w : Int) (nb : Nat) (t : Tr) (L : List Ro), TrT w nb m t L ∧ q = some ⟨nb, 0, none⟩ ∧ R (.vrow 41 4 (L.map roE))
  | _, _, _ => False

theorem table_ok : SpecOK Try.prog 13 (memR [none] tableF) := by
  refine memR_ok (run_ok (l := tableCs) tableCs_ok mixed noNG) fun m l R hF => ?_
  unfold tableF at hF
  split at hF
  · rename_i q
    obtain ⟨w, nb, t, L, hT, rfl, hR⟩ := hF
    obtain ⟨len, nds, hV⟩ := hT.v
    have hL : L.length ≤ 256 := hT.tb.most
    have hok := hT.ok
    obtain ⟨_, rfl, htb⟩ := hT
    refine ⟨_, hR, trivial, [.mrg true Unit (fun _ => wkSt m ((t.list 0#64 0#64 0))) (fun _ => True) (keepM 13 [5]) [.wrc [48]] (fun _ => []), .rng Ro roE ((t.list 0#64 0#64 0)) [2, 3, 4] [(1, 41, 4)] (tbHp m ((t.list 0#64 0#64 0))) (fun _ => True) [1] [1] (fun _ _ => [])], ?_⟩
    show run tableCs Try.prog _ [.val (.pointer (some ⟨nb, 0, none⟩))] [some ⟨false, memTy, 0, true, m⟩] _ _
    rw [table_run (l := t.list 0#64 0#64 0)]
    have hat : t.ptr = if riP w ⟨0#64, 0#64, 0⟩ = true then (Tr.sub (bitAt 0#64 0#64) 0 0 t).ptr else none := by rw [if_pos (ri_zero htb.fam)]; rfl
    have hle : ([] : List Ro).length + (t.list 0#64 0#64 0).length ≤ 1000000 := by rw [List.length_nil]; omega
    have e1 : ([] ++ t.list 0#64 0#64 0).map roE = (t.list 0#64 0#64 0).map roE := rfl
    refine ⟨⟨⟨w, nb, len, nds, t, hV, rfl, ⟨t, [], 0, hat, hV.lies, hok, by omega, fun _ => ⟨by omega, rfl, zFrom_zero⟩, rfl, hle, ⟨(), ?_, trivial⟩, ⟨(), ?_, trivial⟩⟩, ⟨t, [], 0, hat, hV.lies, hok, by omega, fun _ => ⟨by omega, rfl, zFrom_zero⟩, rfl, hle, ⟨(), ?_, trivial⟩⟩⟩, ⟨w, nb, len, nds, t, hV, rfl, ⟨t, [], 0, hat, hV.lies, hok, by omega, fun _ => ⟨by omega, rfl, zFrom_zero⟩, rfl, hle, ⟨(), ?_, trivial⟩⟩⟩⟩, fun _ _ => ⟨⟨rfl, trivial⟩, walk_it' (by omega), fun pre x hlt _ => ⟨⟨by omega, by omega, by simp, by rw [List.length_map]; omega⟩, ?_, trivial⟩, fun _ => ⟨by rw [List.length_map], rfl⟩⟩⟩
    all_goals first | rw [show BitVec.ofInt 64 0 = 0#64 from rfl, e1, List.length_map] | (rw [take_roE, List.map_append, List.length_append]; rfl)
  · exact hF.elim

end Go.Proofs.Ytfpofdlpgocnlaa.L1
end

section
/-
  Layer 7: contracts of the program's calls on a trie: Width, Len, Nodes, Get, Chain.
-/
namespace Go.Proofs.Ytfpofdlpgocnlaa.L1
open Go.Sx Go.Sx.M

def asksF (x : Int → Int → Int → AV) : List AV → List Arg → (Res → Prop) → Prop
  | m, [.v (.val (.pointer q))], R => ∃ (w : Int) (nb : Nat) (len nds : Int) (t : Tr), TrV w nb len nds t m ∧ q = some ⟨nb, 0, none⟩ ∧ R (.v (x w len nds))
  | _, _, _ => False

def chainF : List AV → List Arg → (Res → Prop) → Prop
  | m, [.v (.val (.pointer q))], R => ∃ (w : Int) (nb : Nat) (t : Tr) (L : List Ro), TrT w nb m t L ∧ q = some ⟨nb, 0, none⟩ ∧ R (.v (.int .i64 (chR L)))
  | _, _, _ => False

/-- The node of a prefix that may be one. -/
def nodeAt (w : Int) (t : Tr) (p : Pf) : Tr := if riP w p then Tr.sub (bitAt p.a p.b) 0 p.len.toNat t else .nil

def getF : List AV → List Arg → (Res → Prop) → Prop
  | m, [.v (.val (.pointer q)), .v (.agg [.w64 a, .w64 b, .int .i64 k])], R => ∃ (w : Int) (nb : Nat) (len nds : Int) (t : Tr), TrV w nb len nds t m ∧ q = some ⟨nb, 0, none⟩ ∧
      R (.v (.tuple [.agg [.w64 (roV (nodeAt w t ⟨a, b, k⟩).act ⟨a, b, k⟩).p.a, .w64 (roV (nodeAt w t ⟨a, b, k⟩).act ⟨a, b, k⟩).p.b, .int .i64 (roV (nodeAt w t ⟨a, b, k⟩).act ⟨a, b, k⟩).p.len, .int .i64 (roV (nodeAt w t ⟨a, b, k⟩).act ⟨a, b, k⟩).act], .bool (decide ((nodeAt w t ⟨a, b, k⟩).act ≠ 0))]))
  | _, _, _ => False

theorem width_run (nb : Nat) (m : List AV) (w : Int) (r : AV) : run [] Try.prog 17 [.val (.pointer (some ⟨nb, 0, none⟩))] [some ⟨false, memTy, 0, true, m⟩] [.cell (.int .i64 w)] (yields (.v r)) =
    (Option.isSome (some (Addr.mk nb (0 : Nat) none)) = true ∧ sure (some (Addr.mk nb (0 : Nat) none)) = true ∧ mread m (shift (some (Addr.mk nb (0 : Nat) none)) (0 : Nat)) false (1 : Nat) = some (AV.int IntKind.i64 w) ∧ AV.int IntKind.i64 w = r) := by kernel_rfl

theorem lent_run (nb : Nat) (m : List AV) (w : Int) (r : AV) : run [] Try.prog 14 [.val (.pointer (some ⟨nb, 0, none⟩))] [some ⟨false, memTy, 0, true, m⟩] [.cell (.int .i64 w)] (yields (.v r)) =
    (Option.isSome (some (Addr.mk nb (0 : Nat) none)) = true ∧ sure (some (Addr.mk nb (0 : Nat) none)) = true ∧ mread m (shift (some (Addr.mk nb (0 : Nat) none)) (4 : Nat)) false (1 : Nat) = some (AV.int IntKind.i64 w) ∧ AV.int IntKind.i64 w = r) := by kernel_rfl

theorem nodes_run (nb : Nat) (m : List AV) (w : Int) (r : AV) : run [] Try.prog 15 [.val (.pointer (some ⟨nb, 0, none⟩))] [some ⟨false, memTy, 0, true, m⟩] [.cell (.int .i64 w)] (yields (.v r)) =
    (Option.isSome (some (Addr.mk nb (0 : Nat) none)) = true ∧ sure (some (Addr.mk nb (0 : Nat) none)) = true ∧ mread m (shift (some (Addr.mk nb (0 : Nat) none)) (5 : Nat)) false (1 : Nat) = some (AV.int IntKind.i64 w) ∧ AV.int IntKind.i64 w = r) := by kernel_rfl

noncomputable def getCs : List (FuncId × Sx.Spec) := [(41, memR [none, none] atF), (42, memR [none, none] routeF)]

theorem get_run (nb : Nat) (m : List AV) (a b : BitVec 64) (k : Int) (r : AV) : run getCs Try.prog 20 [.val (.pointer (some ⟨nb, 0, none⟩)), .agg [.w64 a, .w64 b, .int .i64 k]] [some ⟨false, memTy, 0, true, m⟩] [] (yields (.v r)) =
    (∃ (w : Int), ∃ (nb_1 : Nat), ∃ (len : Int), ∃ (nds : Int), ∃ (t : Tr), TrV w nb_1 len nds t m ∧ some (Addr.mk nb (0 : Nat) none) = some (Addr.mk nb_1 (0 : Nat) none) ∧ ∃ (t_1 : Tr), (Tr.ptr t_1 = if riP w (Pf.mk a b k) = true then Tr.ptr (Tr.sub (bitAt a b) (0 : Nat) (Int.toNat k) t) else none) ∧ Tr.lies m t_1 ∧ AV.tuple [AV.agg [AV.w64 (Ro.p (roV (Tr.act t_1) (Pf.mk a b k))).1, AV.w64 (Ro.p (roV (Tr.act t_1) (Pf.mk a b k))).2, AV.int IntKind.i64 (Ro.p (roV (Tr.act t_1) (Pf.mk a b k))).3, AV.int IntKind.i64 (roV (Tr.act t_1) (Pf.mk a b k)).2], AV.bool (Decidable.decide (Tr.act t_1 ≠ (0 : Int)))] = r) := by kernel_rfl

noncomputable def chainCs : List (FuncId × Sx.Spec) := [(13, memR [none] tableF), (39, genSpec [pRo] gchainF)]

theorem chain_run (nb : Nat) (m : List AV) (r : AV) : run chainCs Try.prog 18 [.val (.pointer (some ⟨nb, 0, none⟩))] [some ⟨false, memTy, 0, true, m⟩] [] (yields (.v r)) =
    (∃ (w : Int), ∃ (nb_1 : Nat), ∃ (t : Tr), ∃ (L : List Ro), TrT w nb_1 m t L ∧ some (Addr.mk nb (0 : Nat) none) = some (Addr.mk nb_1 (0 : Nat) none) ∧ (0 : Nat) + List.length (List.map roE L) ≤ List.length (List.map roE L) ∧ List.take (List.length (List.map roE L)) (List.drop (0 : Nat) (List.map roE L)) = List.map roE (deR (List.take (List.length (List.map roE L)) (List.drop (0 : Nat) (List.map roE L)))) ∧ tbR (128 : Int) (deR (List.take (List.length (List.map roE L)) (List.drop (0 : Nat) (List.map roE L)))) = true ∧ AV.int IntKind.i64 (chR (deR (List.take (List.length (List.map roE L)) (List.drop (0 : Nat) (List.map roE L))))) = r) := by kernel_rfl

theorem TrV.at4 {w : Int} {nb : Nat} {len nds : Int} {t : Tr} {m : List AV} (h : TrV w nb len nds t m) : mread m (shift (some ⟨nb, 0, none⟩) 4) false 1 = some (.int .i64 len) := by
  obtain ⟨x, y, z, hv⟩ := h.val
  show mread m (some ⟨nb, 0 + 4, none⟩) false 1 = _
  unfold mread
  simp only [hv]
  rfl

theorem TrV.at5 {w : Int} {nb : Nat} {len nds : Int} {t : Tr} {m : List AV} (h : TrV w nb len nds t m) : mread m (shift (some ⟨nb, 0, none⟩) 5) false 1 = some (.int .i64 nds) := by
  obtain ⟨x, y, z, hv⟩ := h.val
  show mread m (some ⟨nb, 0 + 5, none⟩) false 1 = _
  unfold mread
  simp only [hv]
  rfl

theorem width_ok : SpecOK Try.prog 17 (memR [none] (asksF fun w _ _ => .int .i64 w)) := by
  refine memR_ok none_ok fun m l R hF => ?_
  unfold asksF at hF
  split at hF
  · rename_i q
    obtain ⟨w, nb, len, nds, t, hV, rfl, hR⟩ := hF
    refine ⟨_, hR, rfl, [.cell (.int .i64 w)], ?_⟩
    show run [] Try.prog _ [.val (.pointer (some ⟨nb, 0, none⟩))] [some ⟨false, memTy, 0, true, m⟩] _ _
    rw [width_run (w := w)]
    exact ⟨rfl, rfl, hV.width, rfl⟩
  · exact hF.elim

theorem lent_ok : SpecOK Try.prog 14 (memR [none] (asksF fun _ len _ => .int .i64 len)) := by
  refine memR_ok none_ok fun m l R hF => ?_
  unfold asksF at hF
  split at hF
  · rename_i q
    obtain ⟨w, nb, len, nds, t, hV, rfl, hR⟩ := hF
    refine ⟨_, hR, rfl, [.cell (.int .i64 (len))], ?_⟩
    show run [] Try.prog _ [.val (.pointer (some ⟨nb, 0, none⟩))] [some ⟨false, memTy, 0, true, m⟩] _ _
    rw [lent_run (w := len)]
    exact ⟨rfl, rfl, TrV.at4 hV, rfl⟩
  · exact hF.elim

theorem nodes_ok : SpecOK Try.prog 15 (memR [none] (asksF fun _ _ nds => .int .i64 nds)) := by
  refine memR_ok none_ok fun m l R hF => ?_
  unfold asksF at hF
  split at hF
  · rename_i q
    obtain ⟨w, nb, len, nds, t, hV, rfl, hR⟩ := hF
    refine ⟨_, hR, rfl, [.cell (.int .i64 (nds))], ?_⟩
    show run [] Try.prog _ [.val (.pointer (some ⟨nb, 0, none⟩))] [some ⟨false, memTy, 0, true, m⟩] _ _
    rw [nodes_run (w := nds)]
    exact ⟨rfl, rfl, TrV.at5 hV, rfl⟩
  · exact hF.elim

theorem getCs_ok : ∀ e ∈ getCs, SpecOK Try.prog e.1 e.2 := by
  intro e he
  simp only [getCs, List.mem_cons, List.not_mem_nil, or_false] at he
  rcases he with rfl | rfl
  · exact at_ok
  · exact route_ok

theorem get_ok : SpecOK Try.prog 20 (memR [none, none] getF) := by
  refine memR_ok (run_ok (l := getCs) getCs_ok mixed noNG) fun m l R hF => ?_
  unfold getF at hF
  split at hF
  · rename_i q a b k
    obtain ⟨w, nb, len, nds, t, hV, rfl, hR⟩ := hF
    refine ⟨_, hR, rfl, [], ?_⟩
    show run getCs Try.prog _ [.val (.pointer (some ⟨nb, 0, none⟩)), .agg [.w64 a, .w64 b, .int .i64 k]] [some ⟨false, memTy, 0, true, m⟩] _ _
    rw [get_run]
    refine ⟨w, nb, len, nds, t, hV, rfl, nodeAt w t ⟨a, b, k⟩, ?_, ?_, rfl⟩
    · unfold nodeAt
      split <;> rfl
    · unfold nodeAt
      split
      · exact Tr.lies_sub _ _ _ _ hV.lies
      · exact trivial
  · exact hF.elim

theorem chainCs_ok : ∀ e ∈ chainCs, SpecOK Try.prog e.1 e.2 := by
  intro e he
  simp only [chainCs, List.mem_cons, List.not_mem_nil, or_false] at he
  rcases he with rfl | rfl
  · exact table_ok
  · exact gchain6_ok

theorem chain_ok : SpecOK Try.prog 18 (memR [none] chainF) := by
  refine memR_ok (run_ok (l := chainCs) chainCs_ok mixed noNG) fun m l R hF => ?_
  unfold chainF at hF
  split at hF
  · rename_i q
    obtain ⟨w, nb, t, L, hT, rfl, hR⟩ := hF
    refine ⟨_, hR, rfl, [], ?_⟩
    show run chainCs Try.prog _ [.val (.pointer (some ⟨nb, 0, none⟩))] [some ⟨false, memTy, 0, true, m⟩] _ _
    rw [chain_run]
    refine ⟨w, nb, t, L, hT, rfl, by omega, ?_⟩
    rw [whole_row, deR_map]
    exact ⟨rfl, tbR_iff.2 hT.tb.up, rfl⟩
  · exact hF.elim

/-- What Get tells is the table's. -/
theorem get_eq {w : Int} {nb : Nat} {m : List AV} {t : Tr} {L : List Ro} (h : TrT w nb m t L) (p : Pf) : roV (nodeAt w t p).act p = roO (if riP w p then fdR L p else none) ∧ decide ((nodeAt w t p).act ≠ 0) = (if riP w p then fdR L p else none).isSome := by
  unfold nodeAt
  by_cases hr : riP w p = true
  · rw [if_pos hr, if_pos hr]
    obtain ⟨hw, k0, k1, hz⟩ := riP_iff.1 hr
    have hm := fun v => Tr.mem_at h.ok (v := v) k0 (by rcases hw with rfl | rfl <;> omega) fun i hi hk => hz i hi (by omega)
    rw [h.list] at hm
    generalize (Tr.sub (bitAt p.a p.b) 0 p.len.toNat t).act = v at hm
    rcases fdR_cases L p with ⟨e, hn⟩ | ⟨x, hx, rfl, e⟩
    · rw [e]
      have : v = 0 := Decidable.of_not_not fun hv => hn _ ((hm v).2 ⟨rfl, hv⟩) rfl
      subst this
      exact ⟨rfl, rfl⟩
    · rw [e]
      obtain ⟨rfl, hv⟩ := (hm x.act).1 hx
      exact ⟨by unfold roV; rw [if_neg hv]; rfl, decide_eq_true hv⟩
  · rw [if_neg hr, if_neg hr]
    exact ⟨rfl, rfl⟩

end Go.Proofs.Ytfpofdlpgocnlaa.L1
end

section
/-
  Layer 7: the routes on a way: the iterator over them, and the longest one.
-/
namespace Go.Sx.M
open Go.Proofs.Ytfpofdlpgocnlaa.L1

/-- A node on the way of an address. -/
def Tr.wn (t : Tr) (a b : BitVec 64) (k : Nat) : Tr := Tr.sub (fun i => bitZ a b (i : Int)) 0 k t

/-- The route of the prefix of that many bits. -/
def Tr.wr (t : Tr) (a b : BitVec 64) (k : Nat) : Option Ro := if (t.wn a b k).act = 0 then none else some ⟨⟨a &&& mkW (k : Int), b &&& mkW ((k : Int) - 64), clamp (k : Int)⟩, (t.wn a b k).act⟩

/-- The routes on the way. -/
def Tr.way (t : Tr) (a b : BitVec 64) (n : Nat) : List Ro := (List.range n).filterMap (t.wr a b)

theorem Tr.way_succ (t : Tr) (a b : BitVec 64) (n : Nat) : t.way a b (n + 1) = t.way a b n ++ (t.wr a b n).toList := by
  unfold Tr.way
  rw [List.range_succ, List.filterMap_append]
  cases h : t.wr a b n <;> simp [h]

end Go.Sx.M
namespace Go.Proofs.Ytfpofdlpgocnlaa.L1
open Go.Sx Go.Sx.M

def mtHp (nb : Nat) (m : List AV) (a b : BitVec 64) (most : Int) : Hp := [some ⟨false, memTy, 0, true, m⟩, none, none, none, none, some ⟨false, 25, 1, true, [.val (.pointer (some ⟨nb, 0, none⟩))]⟩, some ⟨false, 37, 2, true, [.agg [.w64 a, .w64 b]]⟩, some ⟨false, 3, 1, true, [.int .i64 most]⟩]

def mtSt (y nb : Nat) (m : List AV) (t : Tr) (a b : BitVec 64) (most : Int) (p : Nat) : St := ⟨[.func (.yield y) [] [], .ptr 5 0 0 true, .ptr 7 0 0 true, .ptr 6 0 0 true, .any, .val (.pointer (t.wn a b p).ptr), .int .i64 p, .any, .any, .any, .any, .any, .any, .any, .any, .any, .any, .any, .any, .any, .any, .any, .any, .any, .any, .any, .any, .any, .any, .any, .any, .any, .any, .any, .any, .any, .any, .any, .any, .any, .any, .any, .any, .any], mtHp nb m a b most⟩
def mtM0 : Modes := ⟨[1, 1, 1, 1, 0, 2, 2, 0, 0, 0, 0, 0, 0, 0, 0, 0, 0, 0, 0, 0, 0, 0, 0, 0, 0, 0, 0, 0, 0, 0, 0, 0, 0, 0, 0, 0, 0, 0, 0, 0, 0, 0, 0, 0], [], [], [], []⟩
def mtM : Modes := ⟨[1, 1, 1, 1, 0, 2, 2, 0, 0, 0, 0, 0, 0, 0, 0, 0, 0, 0, 0, 0, 0, 0, 0, 0, 0, 0, 0, 0, 0, 0, 0, 0, 0, 0, 0, 0, 0, 0, 0, 0, 0, 0, 0, 0], [], [], [], []⟩
def mtH (y nb : Nat) (m : List AV) (t : Tr) (a b : BitVec 64) (most : Int) : List Hint := [.linv Nat 0 (mtSt y nb m t a b most) (fun p => (p : Int) ≤ most + 1) (fun p => (most + 1).toNat - p) mtM0 mtM mtM (fun p => [.ix (t.way a b p).length]) fun p => [.fork [.fork [.fork [.fork [.dy, .cell (.val (.pointer (t.wn a b (p + 1)).ptr)), .nw] []] [.dy, .cell (.val (.pointer (t.wn a b (p + 1)).ptr)), .nw]] []] []]]

def lastR (l : List Ro) : Ro := roO l.getLast?
def lastB (l : List Ro) : Bool := l.getLast?.isSome

def zeroRow : List AV := [.agg [.w64 0#64, .w64 0#64, .int .i64 0, .int .i64 0]]

/-- The rows between two rounds of longest's loop. -/
def lgHp (nb : Nat) (m : List AV) (a b : BitVec 64) (most : Int) (pre : List Ro) : Hp :=
  [some ⟨false, memTy, 0, true, m⟩, some ⟨true, 37, 2, true, [.agg [.w64 a, .w64 b]]⟩, some ⟨true, 41, 4, true, zeroRow⟩, some ⟨true, 41, 4, true, [roE (lastR pre)]⟩, some ⟨true, 4, 1, true, [.bool (lastB pre)]⟩,
   some ⟨false, 25, 1, true, [.val (.pointer (some ⟨nb, 0, none⟩))]⟩, some ⟨false, 37, 2, true, [.agg [.w64 a, .w64 b]]⟩, some ⟨false, 3, 1, true, [.int .i64 most]⟩]

noncomputable def mtCs : List (FuncId × Sx.Spec) := [(36, genSpec [none, none] makeF), (42, memR [none, none] routeF), (63, genSpec [none, none] sideF)]

theorem matching_run (y nb : Nat) (m : List AV) (t : Tr) (a b : BitVec 64) (most : Int) (xs : List AV) : evFnIt (run mtCs Try.prog) Try.prog noIt 73 [.ptr 5 0 0 true, .ptr 7 0 0 true, .ptr 6 0 0 true] (mtHp nb m a b most) xs y (mtH y nb m t a b most) =
    (Option.isSome (some (Addr.mk nb (0 : Nat) none)) = true ∧ sure (some (Addr.mk nb (0 : Nat) none)) = true ∧ (St.mk [AV.func (Fn.yield y) [] [], AV.ptr ((0 : Nat) + (1 : Nat) + (1 : Nat) + (1 : Nat) + (1 : Nat) + (1 : Nat)) (0 : Nat) (0 : Nat) true, AV.ptr ((0 : Nat) + (1 : Nat) + (1 : Nat) + (1 : Nat) + (1 : Nat) + (1 : Nat) + (1 : Nat) + (1 : Nat)) (0 : Nat) (0 : Nat) true, AV.ptr ((0 : Nat) + (1 : Nat) + (1 : Nat) + (1 : Nat) + (1 : Nat) + (1 : Nat) + (1 : Nat)) (0 : Nat) (0 : Nat) true, AV.any, AV.val (Value.pointer (shift (some (Addr.mk nb (0 : Nat) none)) (1 : Nat))), AV.int IntKind.i64 (0 : Int), AV.any, AV.any, AV.any, AV.any, AV.any, AV.any, AV.any, AV.any, AV.any, AV.any, AV.any, AV.any, AV.any, AV.any, AV.any, AV.any, AV.any, AV.any, AV.any, AV.any, AV.any, AV.any, AV.any, AV.any, AV.any, AV.any, AV.any, AV.any, AV.any, AV.any, AV.any, AV.any, AV.any, AV.any, AV.any, AV.any, AV.any] [some (Blk.mk false (nat_lit 1000003) (0 : Nat) true m), none, none, none, none, some (Blk.mk false (nat_lit 25) (1 : Nat) true [AV.val (Value.pointer (some (Addr.mk nb (0 : Nat) none)))]), some (Blk.mk false (nat_lit 37) (2 : Nat) true [AV.agg [AV.w64 a, AV.w64 b]]), some (Blk.mk false (nat_lit 3) (1 : Nat) true [AV.int IntKind.i64 most])] = mtSt y nb m t a b most (0 : Nat) ∧ Int.NonNeg (most + (1 : Int) - (↑(0 : Nat) : Int)) ∧ List.length (Tr.way t a b (0 : Nat)) = (0 : Nat)) ∧ ∀ (p : Nat), Int.NonNeg (most + (1 : Int) - (↑p : Int)) → ((!Option.isNone (Tr.ptr (Tr.wn t a b p))) = true → (Decidable.decide ((↑p : Int) ≤ most) = true → ∃ (t_1 : Tr), Tr.ptr t_1 = Tr.ptr (Tr.wn t a b p) ∧ Tr.lies m t_1 ∧ (Decidable.decide (Tr.act t_1 ≠ (0 : Int)) = true → y = y ∧ true = true ∧ xs[List.length (Tr.way t a b p)]? = some (AV.agg [AV.w64 (Ro.p (roV (Tr.act t_1) (Pf.mk (a &&& mkW (↑p : Int)) (b &&& mkW ((↑p : Int) - (64 : Int))) (clamp (↑p : Int))))).1, AV.w64 (Ro.p (roV (Tr.act t_1) (Pf.mk (a &&& mkW (↑p : Int)) (b &&& mkW ((↑p : Int) - (64 : Int))) (clamp (↑p : Int))))).2, AV.int IntKind.i64 (Ro.p (roV (Tr.act t_1) (Pf.mk (a &&& mkW (↑p : Int)) (b &&& mkW ((↑p : Int) - (64 : Int))) (clamp (↑p : Int))))).3, AV.int IntKind.i64 (roV (Tr.act t_1) (Pf.mk (a &&& mkW (↑p : Int)) (b &&& mkW ((↑p : Int) - (64 : Int))) (clamp (↑p : Int)))).2]) ∧ (Option.isSome (Tr.ptr (Tr.wn t a b p)) = true ∧ sure (Tr.ptr (Tr.wn t a b p)) = true ∧ (bitZ a b (↑p : Int) = true → ((0 : Int) ≤ (1 : Int) ∧ (1 : Int) < (↑(2 : Nat) : Int)) ∧ sure (shift (Tr.ptr (Tr.wn t a b p)) (0 : Nat)) = true ∧ mread m (shift (shift (Tr.ptr (Tr.wn t a b p)) (0 : Nat)) (Int.toNat (1 : Int) * (1 : Nat))) false (1 : Nat) = some (AV.val (Value.pointer (Tr.ptr (Tr.wn t a b (p + (1 : Nat)))))) ∧ inRange IntKind.i64 ((↑p : Int) + (1 : Int)) ∧ ∃ (p' : Nat), St.mk [AV.func (Fn.yield y) [] [], AV.ptr ((0 : Nat) + (1 : Nat) + (1 : Nat) + (1 : Nat) + (1 : Nat) + (1 : Nat)) (0 : Nat) (0 : Nat) true, AV.ptr ((0 : Nat) + (1 : Nat) + (1 : Nat) + (1 : Nat) + (1 : Nat) + (1 : Nat) + (1 : Nat) + (1 : Nat)) (0 : Nat) (0 : Nat) true, AV.ptr ((0 : Nat) + (1 : Nat) + (1 : Nat) + (1 : Nat) + (1 : Nat) + (1 : Nat) + (1 : Nat)) (0 : Nat) (0 : Nat) true, AV.any, AV.val (Value.pointer (Tr.ptr (Tr.wn t a b (p + (1 : Nat))))), AV.int IntKind.i64 ((↑p : Int) + (1 : Int)), AV.any, AV.any, AV.any, AV.any, AV.any, AV.any, AV.any, AV.any, AV.any, AV.any, AV.any, AV.any, AV.any, AV.any, AV.any, AV.any, AV.any, AV.any, AV.any, AV.any, AV.any, AV.any, AV.any, AV.any, AV.any, AV.any, AV.any, AV.any, AV.any, AV.any, AV.any, AV.any, AV.any, AV.any, AV.any, AV.any, AV.any] [some (Blk.mk false (nat_lit 1000003) (0 : Nat) true m), none, none, none, none, some (Blk.mk false (nat_lit 25) (1 : Nat) true [AV.val (Value.pointer (some (Addr.mk nb (0 : Nat) none)))]), some (Blk.mk false (nat_lit 37) (2 : Nat) true [AV.agg [AV.w64 a, AV.w64 b]]), some (Blk.mk false (nat_lit 3) (1 : Nat) true [AV.int IntKind.i64 most])] = mtSt y nb m t a b most p' ∧ Int.NonNeg (most + (1 : Int) - (↑p' : Int)) ∧ List.length (Tr.way t a b p') = List.length (Tr.way t a b p) + (1 : Nat) ∧ Int.toNat (most + (1 : Int)) - p' < Int.toNat (most + (1 : Int)) - p) ∧ (bitZ a b (↑p : Int) = false → ((0 : Int) ≤ (0 : Int) ∧ (0 : Int) < (↑(2 : Nat) : Int)) ∧ sure (shift (Tr.ptr (Tr.wn t a b p)) (0 : Nat)) = true ∧ mread m (shift (shift (Tr.ptr (Tr.wn t a b p)) (0 : Nat)) (Int.toNat (0 : Int) * (1 : Nat))) false (1 : Nat) = some (AV.val (Value.pointer (Tr.ptr (Tr.wn t a b (p + (1 : Nat)))))) ∧ inRange IntKind.i64 ((↑p : Int) + (1 : Int)) ∧ ∃ (p' : Nat), St.mk [AV.func (Fn.yield y) [] [], AV.ptr ((0 : Nat) + (1 : Nat) + (1 : Nat) + (1 : Nat) + (1 : Nat) + (1 : Nat)) (0 : Nat) (0 : Nat) true, AV.ptr ((0 : Nat) + (1 : Nat) + (1 : Nat) + (1 : Nat) + (1 : Nat) + (1 : Nat) + (1 : Nat) + (1 : Nat)) (0 : Nat) (0 : Nat) true, AV.ptr ((0 : Nat) + (1 : Nat) + (1 : Nat) + (1 : Nat) + (1 : Nat) + (1 : Nat) + (1 : Nat)) (0 : Nat) (0 : Nat) true, AV.any, AV.val (Value.pointer (Tr.ptr (Tr.wn t a b (p + (1 : Nat))))), AV.int IntKind.i64 ((↑p : Int) + (1 : Int)), AV.any, AV.any, AV.any, AV.any, AV.any, AV.any, AV.any, AV.any, AV.any, AV.any, AV.any, AV.any, AV.any, AV.any, AV.any, AV.any, AV.any, AV.any, AV.any, AV.any, AV.any, AV.any, AV.any, AV.any, AV.any, AV.any, AV.any, AV.any, AV.any, AV.any, AV.any, AV.any, AV.any, AV.any, AV.any, AV.any, AV.any] [some (Blk.mk false (nat_lit 1000003) (0 : Nat) true m), none, none, none, none, some (Blk.mk false (nat_lit 25) (1 : Nat) true [AV.val (Value.pointer (some (Addr.mk nb (0 : Nat) none)))]), some (Blk.mk false (nat_lit 37) (2 : Nat) true [AV.agg [AV.w64 a, AV.w64 b]]), some (Blk.mk false (nat_lit 3) (1 : Nat) true [AV.int IntKind.i64 most])] = mtSt y nb m t a b most p' ∧ Int.NonNeg (most + (1 : Int) - (↑p' : Int)) ∧ List.length (Tr.way t a b p') = List.length (Tr.way t a b p) + (1 : Nat) ∧ Int.toNat (most + (1 : Int)) - p' < Int.toNat (most + (1 : Int)) - p)) ∧ ((1 : Nat) = (0 : Nat) → List.length (Tr.way t a b p) + (1 : Nat) = List.length xs)) ∧ (Decidable.decide (Tr.act t_1 ≠ (0 : Int)) = false → Option.isSome (Tr.ptr (Tr.wn t a b p)) = true ∧ sure (Tr.ptr (Tr.wn t a b p)) = true ∧ (bitZ a b (↑p : Int) = true → ((0 : Int) ≤ (1 : Int) ∧ (1 : Int) < (↑(2 : Nat) : Int)) ∧ sure (shift (Tr.ptr (Tr.wn t a b p)) (0 : Nat)) = true ∧ mread m (shift (shift (Tr.ptr (Tr.wn t a b p)) (0 : Nat)) (Int.toNat (1 : Int) * (1 : Nat))) false (1 : Nat) = some (AV.val (Value.pointer (Tr.ptr (Tr.wn t a b (p + (1 : Nat)))))) ∧ inRange IntKind.i64 ((↑p : Int) + (1 : Int)) ∧ ∃ (p' : Nat), St.mk [AV.func (Fn.yield y) [] [], AV.ptr ((0 : Nat) + (1 : Nat) + (1 : Nat) + (1 : Nat) + (1 : Nat) + (1 : Nat)) (0 : Nat) (0 : Nat) true, AV.ptr ((0 : Nat) + (1 : Nat) + (1 : Nat) + (1 : Nat) + (1 : Nat) + (1 : Nat) + (1 : Nat) + (1 : Nat)) (0 : Nat) (0 : Nat) true, AV.ptr ((0 : Nat) + (1 : Nat) + (1 : Nat) + (1 : Nat) + (1 : Nat) + (1 : Nat) + (1 : Nat)) (0 : Nat) (0 : Nat) true, AV.any, AV.val (Value.pointer (Tr.ptr (Tr.wn t a b (p + (1 : Nat))))), AV.int IntKind.i64 ((↑p : Int) + (1 : Int)), AV.any, AV.any, AV.any, AV.any, AV.any, AV.any, AV.any, AV.any, AV.any, AV.any, AV.any, AV.any, AV.any, AV.any, AV.any, AV.any, AV.any, AV.any, AV.any, AV.any, AV.any, AV.any, AV.any, AV.any, AV.any, AV.any, AV.any, AV.any, AV.any, AV.any, AV.any, AV.any, AV.any, AV.any, AV.any, AV.any, AV.any] [some (Blk.mk false (nat_lit 1000003) (0 : Nat) true m), none, none, none, none, some (Blk.mk false (nat_lit 25) (1 : Nat) true [AV.val (Value.pointer (some (Addr.mk nb (0 : Nat) none)))]), some (Blk.mk false (nat_lit 37) (2 : Nat) true [AV.agg [AV.w64 a, AV.w64 b]]), some (Blk.mk false (nat_lit 3) (1 : Nat) true [AV.int IntKind.i64 most])] = mtSt y nb m t a b most p' ∧ Int.NonNeg (most + (1 : Int) - (↑p' : Int)) ∧ List.length (Tr.way t a b p') = List.length (Tr.way t a b p) ∧ Int.toNat (most + (1 : Int)) - p' < Int.toNat (most + (1 : Int)) - p) ∧ (bitZ a b (↑p : Int) = false → ((0 : Int) ≤ (0 : Int) ∧ (0 : Int) < (↑(2 : Nat) : Int)) ∧ sure (shift (Tr.ptr (Tr.wn t a b p)) (0 : Nat)) = true ∧ mread m (shift (shift (Tr.ptr (Tr.wn t a b p)) (0 : Nat)) (Int.toNat (0 : Int) * (1 : Nat))) false (1 : Nat) = some (AV.val (Value.pointer (Tr.ptr (Tr.wn t a b (p + (1 : Nat)))))) ∧ inRange IntKind.i64 ((↑p : Int) + (1 : Int)) ∧ ∃ (p' : Nat), St.mk [AV.func (Fn.yield y) [] [], AV.ptr ((0 : Nat) + (1 : Nat) + (1 : Nat) + (1 : Nat) + (1 : Nat) + (1 : Nat)) (0 : Nat) (0 : Nat) true, AV.ptr ((0 : Nat) + (1 : Nat) + (1 : Nat) + (1 : Nat) + (1 : Nat) + (1 : Nat) + (1 : Nat) + (1 : Nat)) (0 : Nat) (0 : Nat) true, AV.ptr ((0 : Nat) + (1 : Nat) + (1 : Nat) + (1 : Nat) + (1 : Nat) + (1 : Nat) + (1 : Nat)) (0 : Nat) (0 : Nat) true, AV.any, AV.val (Value.pointer (Tr.ptr (Tr.wn t a b (p + (1 : Nat))))), AV.int IntKind.i64 ((↑p : Int) + (1 : Int)), AV.any, AV.any, AV.any, AV.any, AV.any, AV.any, AV.any, AV.any, AV.any, AV.any, AV.any, AV.any, AV.any, AV.any, AV.any, AV.any, AV.any, AV.any, AV.any, AV.any, AV.any, AV.any, AV.any, AV.any, AV.any, AV.any, AV.any, AV.any, AV.any, AV.any, AV.any, AV.any, AV.any, AV.any, AV.any, AV.any, AV.any] [some (Blk.mk false (nat_lit 1000003) (0 : Nat) true m), none, none, none, none, some (Blk.mk false (nat_lit 25) (1 : Nat) true [AV.val (Value.pointer (some (Addr.mk nb (0 : Nat) none)))]), some (Blk.mk false (nat_lit 37) (2 : Nat) true [AV.agg [AV.w64 a, AV.w64 b]]), some (Blk.mk false (nat_lit 3) (1 : Nat) true [AV.int IntKind.i64 most])] = mtSt y nb m t a b most p' ∧ Int.NonNeg (most + (1 : Int) - (↑p' : Int)) ∧ List.length (Tr.way t a b p') = List.length (Tr.way t a b p) ∧ Int.toNat (most + (1 : Int)) - p' < Int.toNat (most + (1 : Int)) - p))) ∧ (Decidable.decide ((↑p : Int) ≤ most) = false → (0 : Nat) = (0 : Nat) → List.length (Tr.way t a b p) = List.length xs)) ∧ ((!Option.isNone (Tr.ptr (Tr.wn t a b p))) = false → (0 : Nat) = (0 : Nat) → List.length (Tr.way t a b p) = List.length xs)) := by kernel_rfl

theorem zero_read {m : List AV} {w : Int} {nb : Nat} {len nds : Int} {t : Tr} (h : TrV w nb len nds t m) : shift (some ⟨nb, 0, none⟩) 1 = t.ptr := by rw [h.ptr]; rfl

theorem Tr.wn_succ (t : Tr) (a b : BitVec 64) (p : Nat) : Tr.sub (fun i => bitZ a b (i : Int)) p 1 (t.wn a b p) = t.wn a b (p + 1) := by
  have := Tr.sub_succ (fun i => bitZ a b (i : Int)) 0 p t
  rw [Nat.zero_add] at this
  exact this.symm

theorem Tr.way_nil {t : Tr} {a b : BitVec 64} {p : Nat} (h : t.wn a b p = .nil) : ∀ j, t.way a b (p + j) = t.way a b p
  | 0 => rfl
  | j + 1 => by
    have : t.wn a b (p + j) = .nil := by
      unfold Tr.wn at h ⊢
      rw [Tr.sub_add, h, Tr.sub_nil]
    rw [← Nat.add_assoc, Tr.way_succ, Tr.way_nil h j]
    unfold Tr.wr
    rw [this]
    exact List.append_nil _

theorem Tr.way_le {t : Tr} {a b : BitVec 64} {p : Nat} : ∀ {n : Nat}, p ≤ n → t.way a b p <+: t.way a b n
  | 0, h => by rw [Nat.le_zero.1 h]; exact List.prefix_refl _
  | n + 1, h => by
    rcases Nat.lt_or_eq_of_le h with h | rfl
    · rw [Tr.way_succ]; exact (Tr.way_le (Nat.le_of_lt_succ h)).trans (List.prefix_append _ _)
    · exact List.prefix_refl _

theorem mtCs_ok : ∀ e ∈ mtCs, SpecOK Try.prog e.1 e.2 := by
  intro e he
  simp only [mtCs, List.mem_cons, List.not_mem_nil, or_false] at he
  rcases he with rfl | rfl | rfl
  · exact pmake_ok
  · exact route_ok
  · exact side_ok

theorem matching_it {w : Int} {nb : Nat} {len nds : Int} {m : List AV} {t : Tr} (hV : TrV w nb len nds t m) (a b : BitVec 64) {most : Int} (h0 : -1 ≤ most) (h1 : most ≤ 1000) : ItOK Try.prog 73 [.ptr 5 0 0 true, .ptr 7 0 0 true, .ptr 6 0 0 true] (mtHp nb m a b most) ((t.way a b (most + 1).toNat).map roE) := by
  refine itOK_of (C := run mtCs Try.prog) (It := noIt) (run_ok (l := mtCs) mtCs_ok mixed noNG) mixed noNG noGlob rfl noIt_ok (roE_pures _) (roE_vals _) fun y => ⟨mtH y nb m t a b most, ?_⟩
  rw [matching_run]
  refine ⟨rfl, rfl, ⟨by rw [zero_read hV]; rfl, (show ((0 : Nat) : Int) ≤ most + 1 by omega), rfl⟩, fun p hp => ?_⟩
  have hp : (p : Int) ≤ most + 1 := hp
  have stop : ∀ {z : Nat}, t.way a b z = t.way a b (most + 1).toNat → (t.way a b z).length = ((t.way a b (most + 1).toNat).map roE).length := fun h => by rw [h, List.length_map]
  refine ⟨fun hs => ⟨fun hlt => ?_, fun hge _ => ?_⟩, fun hn _ => ?_⟩
  · have hlt : (p : Int) ≤ most := of_decide_eq_true hlt
    have hn : t.wn a b p ≠ .nil := fun e => by rw [Tr.ptr_nil.2 e] at hs; cases hs
    have hl : (t.wn a b p).lies m := Tr.lies_sub _ p 0 t hV.lies
    have hst := Tr.step_read hl hn (fun i => bitZ a b (i : Int)) p
    rw [Tr.wn_succ] at hst
    have hw := Tr.way_succ t a b p
    have wt : bitZ a b (p : Int) = true → mread m (shift (shift (t.wn a b p).ptr 0) (Int.toNat 1 * 1)) false 1 = some (.val (.pointer (t.wn a b (p + 1)).ptr)) := fun hb => by rw [hb] at hst; exact hst
    have wf : bitZ a b (p : Int) = false → mread m (shift (shift (t.wn a b p).ptr 0) (Int.toNat 0 * 1)) false 1 = some (.val (.pointer (t.wn a b (p + 1)).ptr)) := fun hb => by rw [hb] at hst; exact hst
    have nn : Int.NonNeg (most + 1 - ((p + 1 : Nat) : Int)) := (show ((p + 1 : Nat) : Int) ≤ most + 1 by omega)
    refine ⟨t.wn a b p, rfl, hl, fun ha => ?_, fun ha => ?_⟩
    · have ha : (t.wn a b p).act ≠ 0 := of_decide_eq_true ha
      have hr : t.wr a b p = some ⟨⟨a &&& mkW (p : Int), b &&& mkW ((p : Int) - 64), clamp (p : Int)⟩, (t.wn a b p).act⟩ := if_neg ha
      rw [hr] at hw
      have hlen : (t.way a b (p + 1)).length = (t.way a b p).length + 1 := by rw [hw, List.length_append]; rfl
      refine ⟨rfl, rfl, ?_, ⟨Tr.ptr_some hn, Tr.ptr_sure hl hn, fun hb => ⟨⟨by decide, by decide⟩, sure_shift (Tr.ptr_sure hl hn) 0, wt hb, inR (by omega) (by omega), p + 1, rfl, nn, hlen, by omega⟩, fun hb => ⟨⟨by decide, by decide⟩, sure_shift (Tr.ptr_sure hl hn) 0, wf hb, inR (by omega) (by omega), p + 1, rfl, nn, hlen, by omega⟩⟩, fun h => by cases h⟩
      obtain ⟨l', hl'⟩ := Tr.way_le (t := t) (a := a) (b := b) (p := p + 1) (n := (most + 1).toNat) (by omega)
      rw [List.getElem?_map, ← hl', hw, List.append_assoc, List.getElem?_append_right (Nat.le_refl _), Nat.sub_self]
      unfold roV
      rw [if_neg ha]
      rfl
    · have ha : (t.wn a b p).act = 0 := Decidable.of_not_not (of_decide_eq_false ha)
      have hr : t.wr a b p = none := if_pos ha
      rw [hr] at hw
      have hlen : (t.way a b (p + 1)).length = (t.way a b p).length := by rw [hw, List.length_append]; rfl
      exact ⟨Tr.ptr_some hn, Tr.ptr_sure hl hn, fun hb => ⟨⟨by decide, by decide⟩, sure_shift (Tr.ptr_sure hl hn) 0, wt hb, inR (by omega) (by omega), p + 1, rfl, nn, hlen, by omega⟩, fun hb => ⟨⟨by decide, by decide⟩, sure_shift (Tr.ptr_sure hl hn) 0, wf hb, inR (by omega) (by omega), p + 1, rfl, nn, hlen, by omega⟩⟩
  · have hge : ¬ (p : Int) ≤ most := of_decide_eq_false hge
    exact stop (by rw [show (most + 1).toNat = p by omega])
  · have hn : t.wn a b p = .nil := Tr.ptr_nil.1 (by simpa using hn)
    have := Tr.way_nil hn ((most + 1).toNat - p)
    rw [show p + ((most + 1).toNat - p) = (most + 1).toNat by omega] at this
    exact stop this.symm

theorem longest_run (nb : Nat) (m : List AV) (a b : BitVec 64) (most : Int) (l : List Ro) (r : AV) : run [] Try.prog 43 [.val (.pointer (some ⟨nb, 0, none⟩)), .agg [.w64 a, .w64 b], .int .i64 most] [some ⟨false, memTy, 0, true, m⟩] [.rng Ro roE l [0, 5, 6, 7] [] (lgHp nb m a b most) (fun _ => True) [2] [2] (fun _ _ => [])] (yields (.v r)) =
    (([some (Blk.mk false (nat_lit 1000003) (0 : Nat) true m), some (Blk.mk true (nat_lit 37) (2 : Nat) true [AV.agg [AV.w64 a, AV.w64 b]]), some (Blk.mk true (nat_lit 41) (4 : Nat) true [AV.agg [AV.w64 (BitVec.ofInt (64 : Nat) (0 : Int)), AV.w64 (BitVec.ofInt (64 : Nat) (0 : Int)), AV.int IntKind.i64 (0 : Int), AV.int IntKind.i64 (0 : Int)]]), some (Blk.mk true (nat_lit 41) (4 : Nat) true [AV.agg [AV.w64 (BitVec.ofInt (64 : Nat) (0 : Int)), AV.w64 (BitVec.ofInt (64 : Nat) (0 : Int)), AV.int IntKind.i64 (0 : Int), AV.int IntKind.i64 (0 : Int)]]), some (Blk.mk true (nat_lit 4) (1 : Nat) true [AV.bool false]), some (Blk.mk false (nat_lit 25) (1 : Nat) true [AV.val (Value.pointer (some (Addr.mk nb (0 : Nat) none)))]), some (Blk.mk false (nat_lit 37) (2 : Nat) true [AV.agg [AV.w64 a, AV.w64 b]]), some (Blk.mk false (nat_lit 3) (1 : Nat) true [AV.int IntKind.i64 most])] = lgHp nb m a b most [] ∧ True) ∧ ItOK Proofs.Try.prog (73 : Nat) [AV.ptr (List.length [some (Blk.mk false (nat_lit 1000003) (0 : Nat) true m), some (Blk.mk true (37 : Nat) (2 : Nat) true [AV.agg [AV.w64 a, AV.w64 b]]), some (Blk.mk true (41 : Nat) (4 : Nat) true [AV.agg [AV.lit (Value.int IntKind.u64 (0 : Int)), AV.lit (Value.int IntKind.u64 (0 : Int)), AV.lit (Value.int IntKind.i64 (0 : Int)), AV.lit (Value.int IntKind.i64 (0 : Int))]]), some (Blk.mk true (41 : Nat) (4 : Nat) true [AV.agg [AV.lit (Value.int IntKind.u64 (0 : Int)), AV.lit (Value.int IntKind.u64 (0 : Int)), AV.lit (Value.int IntKind.i64 (0 : Int)), AV.lit (Value.int IntKind.i64 (0 : Int))]]), some (Blk.write (Blk.mk true (4 : Nat) (1 : Nat) true [AV.lit (Value.bool false)]) (0 : Nat) (0 : Nat) (AV.lit (Value.bool false)))]) (0 : Nat) (0 : Nat) true, AV.ptr (List.length [some (Blk.mk false (nat_lit 1000003) (0 : Nat) true m), some (Blk.mk true (37 : Nat) (2 : Nat) true [AV.agg [AV.w64 a, AV.w64 b]]), some (Blk.mk true (41 : Nat) (4 : Nat) true [AV.agg [AV.lit (Value.int IntKind.u64 (0 : Int)), AV.lit (Value.int IntKind.u64 (0 : Int)), AV.lit (Value.int IntKind.i64 (0 : Int)), AV.lit (Value.int IntKind.i64 (0 : Int))]]), some (Blk.mk true (41 : Nat) (4 : Nat) true [AV.agg [AV.lit (Value.int IntKind.u64 (0 : Int)), AV.lit (Value.int IntKind.u64 (0 : Int)), AV.lit (Value.int IntKind.i64 (0 : Int)), AV.lit (Value.int IntKind.i64 (0 : Int))]]), some (Blk.write (Blk.mk true (4 : Nat) (1 : Nat) true [AV.lit (Value.bool false)]) (0 : Nat) (0 : Nat) (AV.lit (Value.bool false))), some (Blk.mk true (25 : Nat) (1 : Nat) true [AV.val (Value.pointer (some (Addr.mk nb (0 : Nat) none)))]), some (Blk.mk true (37 : Nat) (2 : Nat) true [AV.agg [AV.w64 a, AV.w64 b]])]) (0 : Nat) (0 : Nat) true, AV.ptr (List.length [some (Blk.mk false (nat_lit 1000003) (0 : Nat) true m), some (Blk.mk true (37 : Nat) (2 : Nat) true [AV.agg [AV.w64 a, AV.w64 b]]), some (Blk.mk true (41 : Nat) (4 : Nat) true [AV.agg [AV.lit (Value.int IntKind.u64 (0 : Int)), AV.lit (Value.int IntKind.u64 (0 : Int)), AV.lit (Value.int IntKind.i64 (0 : Int)), AV.lit (Value.int IntKind.i64 (0 : Int))]]), some (Blk.mk true (41 : Nat) (4 : Nat) true [AV.agg [AV.lit (Value.int IntKind.u64 (0 : Int)), AV.lit (Value.int IntKind.u64 (0 : Int)), AV.lit (Value.int IntKind.i64 (0 : Int)), AV.lit (Value.int IntKind.i64 (0 : Int))]]), some (Blk.write (Blk.mk true (4 : Nat) (1 : Nat) true [AV.lit (Value.bool false)]) (0 : Nat) (0 : Nat) (AV.lit (Value.bool false))), some (Blk.mk true (25 : Nat) (1 : Nat) true [AV.val (Value.pointer (some (Addr.mk nb (0 : Nat) none)))])]) (0 : Nat) (0 : Nat) true] [some (Blk.mk false (nat_lit 1000003) (0 : Nat) true m), none, none, none, none, some (Blk.mk true (25 : Nat) (1 : Nat) true [AV.val (Value.pointer (some (Addr.mk nb (0 : Nat) none)))]), some (Blk.mk true (37 : Nat) (2 : Nat) true [AV.agg [AV.w64 a, AV.w64 b]]), some (Blk.mk true (3 : Nat) (1 : Nat) true [AV.int IntKind.i64 most])] (List.map roE l) ∧ (∀ (pre : List Ro) (x : Ro), List.length pre < List.length l → True → [some (Blk.mk false (nat_lit 1000003) (0 : Nat) true m), some (Blk.mk true (nat_lit 37) (2 : Nat) true [AV.agg [AV.w64 a, AV.w64 b]]), some (Blk.mk true (nat_lit 41) (4 : Nat) true [AV.agg [AV.w64 (BitVec.ofNat (64 : Nat) (0 : Nat)), AV.w64 (BitVec.ofNat (64 : Nat) (0 : Nat)), AV.int IntKind.i64 (0 : Int), AV.int IntKind.i64 (0 : Int)]]), some (Blk.mk true (nat_lit 41) (4 : Nat) true [AV.agg [AV.w64 (Ro.p x).1, AV.w64 (Ro.p x).2, AV.int IntKind.i64 (Ro.p x).3, AV.int IntKind.i64 x.2]]), some (Blk.mk true (nat_lit 4) (1 : Nat) true [AV.bool true]), some (Blk.mk false (nat_lit 25) (1 : Nat) true [AV.val (Value.pointer (some (Addr.mk nb (0 : Nat) none)))]), some (Blk.mk false (nat_lit 37) (2 : Nat) true [AV.agg [AV.w64 a, AV.w64 b]]), some (Blk.mk false (nat_lit 3) (1 : Nat) true [AV.int IntKind.i64 most])] = lgHp nb m a b most (pre ++ [x]) ∧ True) ∧ (True → AV.tuple [AV.agg [AV.w64 (Ro.p (lastR l)).1, AV.w64 (Ro.p (lastR l)).2, AV.int IntKind.i64 (Ro.p (lastR l)).3, AV.int IntKind.i64 (lastR l).2], AV.bool (lastB l)] = r ∧ AV.tuple [AV.agg [AV.w64 (Ro.p (lastR l)).1, AV.w64 (Ro.p (lastR l)).2, AV.int IntKind.i64 (Ro.p (lastR l)).3, AV.int IntKind.i64 (lastR l).2], AV.bool (lastB l)] = r)) := by kernel_rfl

def longestF : List AV → List Arg → (Res → Prop) → Prop
  | m, [.v (.val (.pointer q)), .v (.agg [.w64 a, .w64 b]), .v (.int .i64 most)], R => ∃ (w : Int) (nb : Nat) (len nds : Int) (t : Tr), TrV w nb len nds t m ∧ q = some ⟨nb, 0, none⟩ ∧ -1 ≤ most ∧ most ≤ 1000 ∧
      R (.v (.tuple [.agg [.w64 (lastR (t.way a b (most + 1).toNat)).p.a, .w64 (lastR (t.way a b (most + 1).toNat)).p.b, .int .i64 (lastR (t.way a b (most + 1).toNat)).p.len, .int .i64 (lastR (t.way a b (most + 1).toNat)).act], .bool (lastB (t.way a b (most + 1).toNat))]))
  | _, _, _ => False

theorem lastR_snoc (l : List Ro) (x : Ro) : lastR (l ++ [x]) = x := by
  unfold lastR
  rw [List.getLast?_concat]; rfl

theorem lastB_snoc (l : List Ro) (x : Ro) : lastB (l ++ [x]) = true := by
  unfold lastB
  rw [List.getLast?_concat]; rfl

theorem matching_it' {w : Int} {nb : Nat} {len nds : Int} {m : List AV} {t : Tr} (hV : TrV w nb len nds t m) (a b : BitVec 64) {most : Int} (h0 : -1 ≤ most) (h1 : most ≤ 1000) : ItOK Try.prog 73 [.ptr 5 0 0 true, .ptr 7 0 0 true, .ptr 6 0 0 true]
    [some ⟨false, memTy, 0, true, m⟩, none, none, none, none, some ⟨true, 25, 1, true, [.val (.pointer (some ⟨nb, 0, none⟩))]⟩, some ⟨true, 37, 2, true, [.agg [.w64 a, .w64 b]]⟩, some ⟨true, 3, 1, true, [.int .i64 most]⟩] ((t.way a b (most + 1).toNat).map roE) := itOK_thaw rfl (matching_it hV a b h0 h1)

theorem longest_ok : SpecOK Try.prog 43 (memR [none, none, none] longestF) := by
  refine memR_ok none_ok fun m l R hF => ?_
  unfold longestF at hF
  split at hF
  · rename_i q a b most
    obtain ⟨w, nb, len, nds, t, hV, rfl, h0, h1, hR⟩ := hF
    refine ⟨_, hR, rfl, [.rng Ro roE ((t.way a b (most + 1).toNat)) [0, 5, 6, 7] [] (lgHp nb m a b most) (fun _ => True) [2] [2] (fun _ _ => [])], ?_⟩
    show run [] Try.prog _ [.val (.pointer (some ⟨nb, 0, none⟩)), .agg [.w64 a, .w64 b], .int .i64 most] [some ⟨false, memTy, 0, true, m⟩] _ _
    rw [longest_run (l := t.way a b (most + 1).toNat)]
    refine ⟨⟨rfl, trivial⟩, matching_it' hV a b h0 h1, fun pre x _ _ => ⟨?_, trivial⟩, fun _ => ⟨rfl, rfl⟩⟩
    unfold lgHp
    rw [lastR_snoc, lastB_snoc]
    rfl
  · exact hF.elim

end Go.Proofs.Ytfpofdlpgocnlaa.L1
end

section
/-
  Layer 7: contracts of the program's calls on a trie: Best, Cover.
-/
namespace Go.Sx.M
open Go.Proofs.Ytfpofdlpgocnlaa.L1

/-- The first bits of an address. -/
def cutP (a b : BitVec 64) (k : Nat) : Pf := ⟨a &&& mkW (k : Int), b &&& mkW ((k : Int) - 64), clamp (k : Int)⟩

theorem cutP_len {a b : BitVec 64} {k : Nat} (hk : k ≤ 128) : (cutP a b k).len = (k : Int) := clamp_iff.2 ⟨by omega, by omega⟩
theorem cutP_bit (a b : BitVec 64) (k : Nat) {i : Nat} (hi : i < 128) : bitAt (cutP a b k).a (cutP a b k).b i = (bitAt a b i && decide (i < k)) := by
  rw [show bitAt (cutP a b k).a (cutP a b k).b i = bitAt (a &&& mkW (k : Int)) (b &&& mkW ((k : Int) - 64)) i from rfl, bitAt_cut _ _ _ hi]
  simp

theorem cutP_mt (a b : BitVec 64) {k : Nat} (hk : k ≤ 128) : mtP (cutP a b k) a b = true := mtP_iff.2 fun i hi hl => by
  rw [cutP_len hk] at hl
  rw [cutP_bit _ _ _ hi, decide_eq_true (by omega), Bool.and_true]

theorem cutP_eq {w : Int} {p : Pf} {a b : BitVec 64} (hp : riP w p = true) (hm : mtP p a b = true) : p = cutP a b p.len.toNat := by
  obtain ⟨hw, k0, k1, hz⟩ := riP_iff.1 hp
  have hk : p.len.toNat ≤ 128 := by rcases hw with rfl | rfl <;> omega
  have hl := cutP_len (a := a) (b := b) hk
  have : p.a = (cutP a b p.len.toNat).a ∧ p.b = (cutP a b p.len.toNat).b := bitAt_eq fun i hi => by
    rw [cutP_bit _ _ _ hi]
    by_cases h : i < p.len.toNat
    · rw [mtP_iff.1 hm i hi (by omega), decide_eq_true h, Bool.and_true]
    · rw [hz i hi (by omega), decide_eq_false h, Bool.and_false]
  generalize cutP a b p.len.toNat = q at this hl
  cases p; cases q; simp_all <;> omega

theorem Tr.wr_mem {t : Tr} (hok : t.ok 0) {a b : BitVec 64} {k : Nat} (hk : k ≤ 128) (x : Ro) : t.wr a b k = some x ↔ x ∈ t.list 0#64 0#64 0 ∧ x.p = cutP a b k := by
  have hl := cutP_len (a := a) (b := b) hk
  have hm := fun v => Tr.mem_at hok (p := cutP a b k) (v := v) (by rw [hl]; omega) (by rw [hl]; omega) fun i hi hki => by
    rw [hl] at hki
    rw [cutP_bit _ _ _ hi, decide_eq_false (by omega), Bool.and_false]
  have hs : Tr.sub (bitAt (cutP a b k).a (cutP a b k).b) 0 (cutP a b k).len.toNat t = t.wn a b k := by
    rw [hl, Int.toNat_natCast]
    refine Tr.sub_congr _ _ _ fun i _ hi => ?_
    rw [cutP_bit _ _ _ (by omega), decide_eq_true (by omega), Bool.and_true, bitZ_at (by omega) (by omega)]
    rfl
  rw [hs] at hm
  unfold Tr.wr
  constructor
  · intro h
    split at h
    · cases h
    · rename_i hv
      obtain rfl := Option.some.inj h
      exact ⟨(hm _).2 ⟨rfl, hv⟩, rfl⟩
  · rintro ⟨hx, hp⟩
    obtain ⟨p, v⟩ := x
    cases hp
    obtain ⟨e, hv⟩ := (hm v).1 hx
    rw [e, if_neg hv]

theorem Tr.mem_way {w : Int} {t : Tr} (hok : t.ok 0) (htb : TB w (t.list 0#64 0#64 0)) {a b : BitVec 64} {n : Nat} (hn : n ≤ 129) (x : Ro) : x ∈ t.way a b n ↔ x ∈ t.list 0#64 0#64 0 ∧ mtP x.p a b = true ∧ x.p.len < (n : Int) := by
  unfold Tr.way
  rw [List.mem_filterMap]
  constructor
  · rintro ⟨k, hk, h⟩
    have hk := List.mem_range.1 hk
    obtain ⟨h1, h2⟩ := (Tr.wr_mem hok (by omega) x).1 h
    exact ⟨h1, by rw [h2]; exact cutP_mt a b (by omega), by rw [h2, cutP_len (by omega)]; omega⟩
  · rintro ⟨hx, hm, hl⟩
    obtain ⟨k0, k1⟩ := htb.len hx
    exact ⟨x.p.len.toNat, List.mem_range.2 (by omega), (Tr.wr_mem hok (by omega) x).2 ⟨hx, cutP_eq (htb.rip hx) hm⟩⟩

theorem Tr.way_last {t : Tr} (hok : t.ok 0) {a b : BitVec 64} : ∀ {n : Nat}, n ≤ 129 → ((t.way a b n).getLast? = none ∧ t.way a b n = []) ∨ ∃ x, (t.way a b n).getLast? = some x ∧ x ∈ t.way a b n ∧ x.p.len < (n : Int) ∧ ∀ y ∈ t.way a b n, y.p.len ≤ x.p.len
  | 0, _ => .inl ⟨rfl, rfl⟩
  | n + 1, hn => by
    rw [Tr.way_succ]
    cases h : t.wr a b n with
    | none =>
      rw [show (none : Option Ro).toList = [] from rfl, List.append_nil]
      rcases Tr.way_last hok (n := n) (by omega) with h | ⟨x, h1, h2, h3, h4⟩
      · exact .inl h
      · exact .inr ⟨x, h1, h2, by omega, h4⟩
    | some x =>
      have hx : x.p.len = (n : Int) := by rw [((Tr.wr_mem hok (by omega) x).1 h).2, cutP_len (by omega)]
      refine .inr ⟨x, List.getLast?_concat, List.mem_append_right _ (List.mem_singleton.2 rfl), by omega, fun y hy => ?_⟩
      rcases List.mem_append.1 hy with hy | hy
      · rcases Tr.way_last hok (n := n) (by omega) with ⟨_, h⟩ | ⟨z, _, _, h3, h4⟩
        · rw [h] at hy; cases hy
        · have := h4 y hy; omega
      · rw [List.mem_singleton.1 hy]; exact Int.le_refl _

theorem Tr.way_best {w : Int} {t : Tr} (hok : t.ok 0) (htb : TB w (t.list 0#64 0#64 0)) (a b : BitVec 64) {n : Nat} (hn : n ≤ 129) : (t.way a b n).getLast? = bsR ((t.list 0#64 0#64 0).filter fun x => decide (x.p.len < (n : Int))) a b := by
  have hm := Tr.mem_way hok htb (a := a) (b := b) hn
  have htb2 := shorter_tb htb (n : Int)
  rcases Tr.way_last hok (a := a) (b := b) hn with ⟨h1, h2⟩ | ⟨x, h1, h2, _, h4⟩
  · rw [h1]
    rcases bsR_tb htb2 a b with ⟨e, _⟩ | ⟨x, hx, _, hx2, _⟩
    · exact e.symm
    · obtain ⟨c, d⟩ := mem_short.1 hx
      have := (hm x).2 ⟨c, hx2, d⟩
      rw [h2] at this
      cases this
  · rw [h1]
    obtain ⟨c, d, e⟩ := (hm x).1 h2
    exact (bsR_max htb2 (mem_short.2 ⟨c, e⟩) d fun y hy hy2 => by
      obtain ⟨c', d'⟩ := mem_short.1 hy
      exact h4 y ((hm y).2 ⟨c', hy2, d'⟩)).symm

end Go.Sx.M
namespace Go.Proofs.Ytfpofdlpgocnlaa.L1
open Go.Sx Go.Sx.M

def bestF : List AV → List Arg → (Res → Prop) → Prop
  | m, [.v (.val (.pointer q)), .v (.agg [.w64 a, .w64 b])], R => ∃ (w : Int) (nb : Nat) (t : Tr) (L : List Ro), TrT w nb m t L ∧ q = some ⟨nb, 0, none⟩ ∧
      R (.v (.tuple [.agg [.w64 (roO (bsR L a b)).p.a, .w64 (roO (bsR L a b)).p.b, .int .i64 (roO (bsR L a b)).p.len, .int .i64 (roO (bsR L a b)).act], .bool (bsR L a b).isSome]))
  | _, _, _ => False

def coverF : List AV → List Arg → (Res → Prop) → Prop
  | m, [.v (.val (.pointer q)), .v (.agg [.w64 a, .w64 b, .int .i64 k])], R => ∃ (w : Int) (nb : Nat) (t : Tr) (L : List Ro), TrT w nb m t L ∧ q = some ⟨nb, 0, none⟩ ∧
      R (.v (.tuple [.agg [.w64 (roO (cvO w L ⟨a, b, k⟩)).p.a, .w64 (roO (cvO w L ⟨a, b, k⟩)).p.b, .int .i64 (roO (cvO w L ⟨a, b, k⟩)).p.len, .int .i64 (roO (cvO w L ⟨a, b, k⟩)).act], .bool (cvO w L ⟨a, b, k⟩).isSome]))
  | _, _, _ => False

noncomputable def lgCs : List (FuncId × Sx.Spec) := [(44, genSpec [none, none] rightF), (43, memR [none, none, none] longestF)]

theorem best_run (nb : Nat) (m : List AV) (w : Int) (a b : BitVec 64) (r : AV) : run lgCs Try.prog 21 [.val (.pointer (some ⟨nb, 0, none⟩)), .agg [.w64 a, .w64 b]] [some ⟨false, memTy, 0, true, m⟩] [.cell (.int .i64 w)] (yields (.v r)) =
    (Option.isSome (Option.some (Go.Addr.mk nb (0 : Nat) Option.none)) = Bool.true ∧ Go.Sx.M.sure (Option.some (Go.Addr.mk nb (0 : Nat) Option.none)) = Bool.true ∧ Go.Sx.M.mread m (Go.Sx.M.shift (Option.some (Go.Addr.mk nb (0 : Nat) Option.none)) (0 : Nat)) Bool.false (1 : Nat) = Option.some (Go.Sx.AV.int Go.IntKind.i64 w) ∧ ∃ (w_1 : Int), ∃ (nb_1 : Nat), ∃ (len : Int), ∃ (nds : Int), ∃ (t : Go.Sx.M.Tr), Go.Sx.M.TrV w_1 nb_1 len nds t m ∧ Option.some (Go.Addr.mk nb (0 : Nat) Option.none) = Option.some (Go.Addr.mk nb_1 (0 : Nat) Option.none) ∧ (-1 : Int) ≤ w ∧ w ≤ (1000 : Int) ∧ Go.Sx.AV.tuple [Go.Sx.AV.agg [Go.Sx.AV.w64 (Go.Sx.M.Ro.p (Go.Proofs.Ytfpofdlpgocnlaa.L1.lastR (Go.Sx.M.Tr.way t a b (Int.toNat (w + (1 : Int)))))).1, Go.Sx.AV.w64 (Go.Sx.M.Ro.p (Go.Proofs.Ytfpofdlpgocnlaa.L1.lastR (Go.Sx.M.Tr.way t a b (Int.toNat (w + (1 : Int)))))).2, Go.Sx.AV.int Go.IntKind.i64 (Go.Sx.M.Ro.p (Go.Proofs.Ytfpofdlpgocnlaa.L1.lastR (Go.Sx.M.Tr.way t a b (Int.toNat (w + (1 : Int)))))).3, Go.Sx.AV.int Go.IntKind.i64 (Go.Proofs.Ytfpofdlpgocnlaa.L1.lastR (Go.Sx.M.Tr.way t a b (Int.toNat (w + (1 : Int))))).2], Go.Sx.AV.bool (Go.Proofs.Ytfpofdlpgocnlaa.L1.lastB (Go.Sx.M.Tr.way t a b (Int.toNat (w + (1 : Int)))))] = r) := by kernel_rfl

theorem cover_run (nb : Nat) (m : List AV) (w : Int) (a b : BitVec 64) (k : Int) (r : AV) : run lgCs Try.prog 22 [.val (.pointer (some ⟨nb, 0, none⟩)), .agg [.w64 a, .w64 b, .int .i64 k]] [some ⟨false, memTy, 0, true, m⟩] [.cell (.int .i64 w), .fork [] [.nw]] (yields (.v r)) =
    (Option.isSome (Option.some (Go.Addr.mk nb (0 : Nat) Option.none)) = Bool.true ∧ Go.Sx.M.sure (Option.some (Go.Addr.mk nb (0 : Nat) Option.none)) = Bool.true ∧ Go.Sx.M.mread m (Go.Sx.M.shift (Option.some (Go.Addr.mk nb (0 : Nat) Option.none)) (0 : Nat)) Bool.false (1 : Nat) = Option.some (Go.Sx.AV.int Go.IntKind.i64 w) ∧ ((!Go.Proofs.Ytfpofdlpgocnlaa.L1.rightB w a b k) = Bool.true → Go.Sx.AV.tuple [Go.Sx.AV.agg [Go.Sx.AV.w64 (BitVec.ofInt (64 : Nat) (0 : Int)), Go.Sx.AV.w64 (BitVec.ofInt (64 : Nat) (0 : Int)), Go.Sx.AV.int Go.IntKind.i64 (0 : Int), Go.Sx.AV.int Go.IntKind.i64 (0 : Int)], Go.Sx.AV.bool Bool.false] = r) ∧ ((!Go.Proofs.Ytfpofdlpgocnlaa.L1.rightB w a b k) = Bool.false → Go.Sx.inRange Go.IntKind.i64 (k - (1 : Int)) ∧ ∃ (w : Int), ∃ (nb_1 : Nat), ∃ (len : Int), ∃ (nds : Int), ∃ (t : Go.Sx.M.Tr), Go.Sx.M.TrV w nb_1 len nds t m ∧ Option.some (Go.Addr.mk nb (0 : Nat) Option.none) = Option.some (Go.Addr.mk nb_1 (0 : Nat) Option.none) ∧ (-1 : Int) ≤ k - (1 : Int) ∧ k - (1 : Int) ≤ (1000 : Int) ∧ Go.Sx.AV.tuple [Go.Sx.AV.agg [Go.Sx.AV.w64 (Go.Sx.M.Ro.p (Go.Proofs.Ytfpofdlpgocnlaa.L1.lastR (Go.Sx.M.Tr.way t a b (Int.toNat (k - (1 : Int) + (1 : Int)))))).1, Go.Sx.AV.w64 (Go.Sx.M.Ro.p (Go.Proofs.Ytfpofdlpgocnlaa.L1.lastR (Go.Sx.M.Tr.way t a b (Int.toNat (k - (1 : Int) + (1 : Int)))))).2, Go.Sx.AV.int Go.IntKind.i64 (Go.Sx.M.Ro.p (Go.Proofs.Ytfpofdlpgocnlaa.L1.lastR (Go.Sx.M.Tr.way t a b (Int.toNat (k - (1 : Int) + (1 : Int)))))).3, Go.Sx.AV.int Go.IntKind.i64 (Go.Proofs.Ytfpofdlpgocnlaa.L1.lastR (Go.Sx.M.Tr.way t a b (Int.toNat (k - (1 : Int) + (1 : Int))))).2], Go.Sx.AV.bool (Go.Proofs.Ytfpofdlpgocnlaa.L1.lastB (Go.Sx.M.Tr.way t a b (Int.toNat (k - (1 : Int) + (1 : Int)))))] = r)) := by kernel_rfl

theorem lgCs_ok : ∀ e ∈ lgCs, SpecOK Try.prog e.1 e.2 := by
  intro e he
  simp only [lgCs, List.mem_cons, List.not_mem_nil, or_false] at he
  rcases he with rfl | rfl
  · exact pright_ok
  · exact longest_ok

theorem filter_all {w : Int} {L : List Ro} (h : TB w L) : (L.filter fun x => decide (x.p.len < ((w + 1).toNat : Int))) = L := by
  rw [List.filter_eq_self]
  intro x hx
  obtain ⟨hw, _, k1, _⟩ := riP_iff.1 (h.rip hx)
  rw [decide_eq_true_eq]
  omega

theorem best_ok : SpecOK Try.prog 21 (memR [none, none] bestF) := by
  refine memR_ok (run_ok (l := lgCs) lgCs_ok mixed noNG) fun m l R hF => ?_
  unfold bestF at hF
  split at hF
  · rename_i q a b
    obtain ⟨w, nb, t, L, hT, rfl, hR⟩ := hF
    obtain ⟨len, nds, hV⟩ := hT.v
    have hok := hT.ok
    obtain ⟨_, rfl, htb⟩ := hT
    have hw := htb.fam
    refine ⟨_, hR, rfl, [.cell (.int .i64 w)], ?_⟩
    show run lgCs Try.prog _ [.val (.pointer (some ⟨nb, 0, none⟩)), .agg [.w64 a, .w64 b]] [some ⟨false, memTy, 0, true, m⟩] _ _
    rw [best_run]
    refine ⟨rfl, rfl, hV.width, w, nb, len, nds, t, hV, rfl, by omega, by omega, ?_⟩
    have e := Tr.way_best hok htb a b (n := (w + 1).toNat) (by omega)
    rw [filter_all htb] at e
    rw [← e]
    rfl
  · exact hF.elim

theorem cover_ok : SpecOK Try.prog 22 (memR [none, none] coverF) := by
  refine memR_ok (run_ok (l := lgCs) lgCs_ok mixed noNG) fun m l R hF => ?_
  unfold coverF at hF
  split at hF
  · rename_i q a b k
    obtain ⟨w, nb, t, L, hT, rfl, hR⟩ := hF
    obtain ⟨len, nds, hV⟩ := hT.v
    have hok := hT.ok
    obtain ⟨_, rfl, htb⟩ := hT
    refine ⟨_, hR, rfl, [.cell (.int .i64 w), .fork [] [.nw]], ?_⟩
    show run lgCs Try.prog _ [.val (.pointer (some ⟨nb, 0, none⟩)), .agg [.w64 a, .w64 b, .int .i64 k]] [some ⟨false, memTy, 0, true, m⟩] _ _
    rw [cover_run]
    refine ⟨rfl, rfl, hV.width, fun h => ?_, fun h => ?_⟩
    · have h : rightB w a b k = false := by simpa using h
      have h : riP w ⟨a, b, k⟩ = false := h
      unfold cvO
      rw [h]
      rfl
    · have h : rightB w a b k = true := by simpa using h
      have h : riP w ⟨a, b, k⟩ = true := h
      obtain ⟨hw, k0, k1, _⟩ := riP_iff.1 h
      have k0 : 0 ≤ k := k0
      have k1 : k ≤ w := k1
      refine ⟨inR (by omega) (by omega), w, nb, len, nds, t, hV, rfl, by omega, by omega, ?_⟩
      have e := Tr.way_best hok htb a b (n := (k - 1 + 1).toNat) (by omega)
      have e2 : cvO w (t.list 0#64 0#64 0) ⟨a, b, k⟩ = (t.way a b (k - 1 + 1).toNat).getLast? := by
        rw [e, show (((k - 1 + 1).toNat : Nat) : Int) = k by omega]
        unfold cvO
        rw [if_pos h]
        rfl
      rw [e2]
      rfl
  · exact hF.elim

end Go.Proofs.Ytfpofdlpgocnlaa.L1
end

section
/-
  Layer 7: contracts of the program's calls on a trie: Put.
-/
namespace Go.Sx.M
open Go.Proofs.Ytfpofdlpgocnlaa.L1

/-- What stands in a tree, by the place of its prefix. -/
theorem Tr.mem_in {t : Tr} (hok : t.ok 0) (x : Ro) : x ∈ t.list 0#64 0#64 0 ↔ (0 ≤ x.p.len ∧ x.p.len ≤ 128 ∧ zFrom x.p.a x.p.b x.p.len.toNat) ∧ (Tr.sub (bitAt x.p.a x.p.b) 0 x.p.len.toNat t).act = x.act ∧ x.act ≠ 0 := by
  constructor
  · intro h
    obtain ⟨n, e1, e2, _, e4, _⟩ := (t.mem_list hok (fun i _ _ => bitAt_zero i) x).1 h
    have hn : x.p.len.toNat = n := by omega
    have hz : zFrom x.p.a x.p.b x.p.len.toNat := by rw [hn]; rw [Nat.zero_add] at e4; exact e4
    exact ⟨⟨by omega, by omega, hz⟩, (Tr.mem_at hok (p := x.p) (v := x.act) (by omega) (by omega) hz).1 h⟩
  · rintro ⟨⟨h0, h1, hz⟩, h⟩
    exact (Tr.mem_at hok (p := x.p) (v := x.act) h0 h1 hz).2 h

/-- How many nodes there may be. -/
theorem Tr.size_le : ∀ (t : Tr) {a b : BitVec 64} {k : Nat}, t.full → t.ok k → t.size ≤ (t.list a b k).length * (129 - k)
  | .nil, _, _, _, _, _ => Nat.zero_le _
  | .nd q act l r, a, b, k, hf, hok => by
    obtain ⟨f0, f1, f2⟩ := hf
    obtain ⟨o1, o2, o3⟩ := hok
    have h1 := Tr.size_le l (a := a) (b := b) f1 o2
    have h2 := Tr.size_le r (a := onA a k) (b := onB b k) f2 o3
    have e : ((Tr.nd q act l r).list a b k).length = (if act = 0 then 0 else 1) + ((l.list a b (k + 1)).length + (r.list (onA a k) (onB b k) (k + 1)).length) := by
      show ((if act = 0 then [] else [_]) ++ (l.list a b (k + 1) ++ r.list (onA a k) (onB b k) (k + 1))).length = _
      rw [List.length_append, List.length_append]
      split <;> rfl
    rw [e]
    show 1 + l.size + r.size ≤ _
    generalize (l.list a b (k + 1)).length = x at h1
    generalize (r.list (onA a k) (onB b k) (k + 1)).length = y at h2
    obtain ⟨d, hd⟩ : ∃ d, 129 - k = d + 1 := ⟨128 - k, by omega⟩
    have hd2 : 129 - (k + 1) = d := by omega
    rw [hd2] at h1 h2
    rw [hd, Nat.mul_succ, Nat.add_mul, Nat.add_mul]
    have hx : act = 0 → 1 ≤ x + y := fun ha => by
      rcases f0 ha with h | h
      · cases l with
        | nil => exact absurd rfl h
        | nd q' a' l' r' =>
          rcases Nat.eq_zero_or_pos x with h0 | h0
          · rw [h0] at h1
            have : 1 + l'.size + r'.size ≤ 0 * d := h1
            omega
          · omega
      · cases r with
        | nil => exact absurd rfl h
        | nd q' a' l' r' =>
          rcases Nat.eq_zero_or_pos y with h0 | h0
          · rw [h0] at h2
            have : 1 + l'.size + r'.size ≤ 0 * d := h2
            omega
          · omega
    split
    · rename_i ha
      have := hx ha
      omega
    · omega

theorem trt_nodes {w : Int} {nb : Nat} {m : List AV} {t : Tr} {L : List Ro} (h : TrT w nb m t L) : t.size ≤ 100000 := by
  have hok := h.ok
  obtain ⟨len, nds, hV⟩ := h.v
  obtain ⟨act, l, r, rfl, _, _, f1, f2⟩ := hV.root
  obtain ⟨_, o2, o3⟩ := hok
  have h1 := Tr.size_le l (a := 0#64) (b := 0#64) f1 o2
  have h2 := Tr.size_le r (a := onA 0#64 0) (b := onB 0#64 0) f2 o3
  have hm := h.tb.most
  rw [← h.list, show (Tr.nd ⟨nb, 1, none⟩ act l r).list 0#64 0#64 0 = (if act = 0 then [] else [⟨⟨0#64, 0#64, ((0 : Nat) : Int)⟩, act⟩]) ++ (l.list 0#64 0#64 (0 + 1) ++ r.list (onA 0#64 0) (onB 0#64 0) (0 + 1)) from rfl, List.length_append, List.length_append] at hm
  show 1 + l.size + r.size ≤ _
  omega

theorem Tr.upd_ne {f : Nat → Bool} {u' : Tr} (hu : u' ≠ .nil) : ∀ {n k : Nat} {t : Tr}, Tr.sub f k n t ≠ .nil → Tr.upd f k n u' t ≠ .nil
  | 0, _, _, _ => hu
  | n + 1, k, .nil, h => absurd (Tr.sub_nil _ _ _) h
  | n + 1, k, .nd q a l r, _ => by
    rw [Tr.upd_one]
    split <;> exact fun e => by cases e

/-- With a number at the way's end all is full. -/
theorem Tr.fullX_done {f : Nat → Bool} {q : Addr} {a j : Int} {l r : Tr} (hj : j ≠ 0) : ∀ {n k : Nat} {t : Tr}, Tr.fullX f k n t → Tr.sub f k n t = .nd q a l r → (Tr.upd f k n (.nd q j l r) t).full
  | 0, k, t, h, hu => by
    have hu : t = .nd q a l r := hu
    subst hu
    exact ⟨fun e => absurd e hj, h.2.1, h.2.2⟩
  | n + 1, k, .nil, h, _ => h.elim
  | n + 1, k, .nd q' a' l' r', h, hu => by
    rw [Tr.sub_one] at hu
    rw [Tr.fullX_one] at h
    rw [Tr.upd_one]
    split at hu
    · rename_i hf
      rw [if_pos hf] at h ⊢
      refine ⟨fun _ => .inr (Tr.upd_ne (fun e => by cases e) (by rw [hu]; exact fun e => by cases e)), h.1, Tr.fullX_done hj h.2 hu⟩
    · rename_i hf
      rw [if_neg hf] at h ⊢
      refine ⟨fun _ => .inl (Tr.upd_ne (fun e => by cases e) (by rw [hu]; exact fun e => by cases e)), Tr.fullX_done hj h.2 hu, h.1⟩

/-- Behind grow: the number is written. -/
theorem GrI.done {w : Int} {b : Nat} {len nds : Int} {f : Nat → Bool} {t0 : Tr} {k : Nat} {t : Tr} {m : List AV} (h : GrI w b len nds f t0 k t m) {j : Int} (hj : j ≠ 0) :
    (Tr.sub f 0 k t).ptr.isSome = true ∧ sure (Tr.sub f 0 k t).ptr = true ∧ (mwrite m (shift (Tr.sub f 0 k t).ptr 2) (.int .i64 j)).isSome = true ∧ ∃ t', TrB w b len nds t' (mwr m (shift (Tr.sub f 0 k t).ptr 2) (.int .i64 j)) ∧ nds = (t'.size : Int) ∧ t'.ok 0 ∧ t'.cfull ∧
      ∀ g n, (Tr.sub g 0 n t').act = if n = k ∧ (∀ i, i < k → g i = f i) then j else (Tr.sub g 0 n t0).act := by
  obtain ⟨hB, hsz, hok, hne, hfx, hact⟩ := h
  cases hu : Tr.sub f 0 k t with
  | nil => exact absurd hu hne
  | nd q a l r =>
  have hlu := Tr.lies_sub f k 0 t hB.lies
  rw [hu] at hlu
  obtain ⟨w1, w2, w3⟩ := node_write (v := .int .i64 j) (i := 2) hlu.2.1 hlu.1 (by omega)
  have hund : (Tr.nd q a l r).blks.Nodup := by rw [← hu]; exact Tr.sub_nodup hB.apart
  obtain ⟨⟨n1, n2⟩, _, _, _⟩ := nd_nodup.1 hund
  obtain ⟨ty0, cs0, l0, hh⟩ := hB.head
  obtain ⟨cs2, l2, hh2⟩ := mwr_head w1 ⟨cs0, l0, hh⟩
  have hl' : (Tr.nd q j l r).lies (mwr m (shift (some q) 2) (.int .i64 j)) := ⟨w2, hlu.2.1, Tr.lies_of (fun b' hb => w3 b' fun e => n1 (e ▸ hb)) hlu.2.2.1, Tr.lies_of (fun b' hb => w3 b' fun e => n2 (e ▸ hb)) hlu.2.2.2⟩
  have hT := hB.turn hu hl' (fun b' _ hn => w3 b' fun e => hn (e ▸ List.mem_cons_self)) (hB.val_write hu (by omega)) ⟨ty0, cs2, l2, hh2⟩ hund (fun b' hb => .inl hb) (fun h1 h2 => ⟨h1, h2⟩)
  have hnn : Tr.sub f 0 k t ≠ .nil := hne
  have hsize := Tr.upd_size (u' := .nd q j l r) hnn
  rw [hu] at hsize
  have hokn : (Tr.nd q a l r).ok (0 + k) := by rw [← hu]; exact Tr.ok_sub k 0 t hok
  refine ⟨rfl, hlu.2.1, w1, Tr.upd f 0 k (.nd q j l r) t, hT, ?_, Tr.upd_ok hok hokn, Tr.full_c (Tr.fullX_done hj hfx hu), fun g n => ?_⟩
  · have : (Tr.nd q j l r).size = (Tr.nd q a l r).size := rfl
    omega
  · obtain ⟨u1, u2⟩ := Tr.upd_act (f := f) (g := g) (u' := .nd q j l r) (m := n) hnn
    by_cases hc : n = k ∧ ∀ i, i < k → g i = f i
    · obtain ⟨rfl, hc'⟩ := hc
      rw [if_pos ⟨rfl, hc'⟩, u1 ⟨Nat.le_refl _, fun i _ hi => hc' i (by omega)⟩, Nat.sub_self]
      rfl
    · rw [if_neg hc, ← hact]
      by_cases hc2 : k ≤ n ∧ ∀ i, 0 ≤ i → i < 0 + k → g i = f i
      · obtain ⟨c1, c2⟩ := hc2
        rw [u1 ⟨c1, c2⟩]
        have hnk : n ≠ k := fun e => hc ⟨e, fun i hi => c2 i (Nat.zero_le _) (by omega)⟩
        obtain ⟨d, hd⟩ : ∃ d, n - k = d + 1 := ⟨n - k - 1, by omega⟩
        have e1 : Tr.sub g 0 n t = Tr.sub g (0 + k) (n - k) (Tr.sub f 0 k t) := by
          rw [← Tr.sub_congr (f := g) (g := f) k 0 t c2, ← Tr.sub_add, show k + (n - k) = n by omega]
        rw [e1, hu, hd]
        rfl
      · exact u2 hc2

/-- The table behind Put. -/
theorem put_list {w : Int} {t t' : Tr} {L : List Ro} (hok : t.ok 0) (hL : t.list 0#64 0#64 0 = L) (hok' : t'.ok 0) {r : Ro} (hr : riR w r = true) (htb : TB w (ptR L r))
    (h : ∀ g n, (Tr.sub g 0 n t').act = if n = r.p.len.toNat ∧ (∀ i, i < r.p.len.toNat → g i = bitAt r.p.a r.p.b i) then r.act else (Tr.sub g 0 n t).act) : t'.list 0#64 0#64 0 = ptR L r := by
  unfold riR at hr
  rw [Bool.and_eq_true] at hr
  obtain ⟨hrp, hra⟩ := hr
  obtain ⟨hw, k0, k1, hz⟩ := riP_iff.1 hrp
  have hz' : zFrom r.p.a r.p.b r.p.len.toNat := fun i hi hk => hz i hi (by omega)
  have ha : r.act ≠ 0 := fun e => by rw [e] at hra; cases hra
  refine tb_ext (Tr.list_sorted _ hok' (fun i _ _ => bitAt_zero i)) htb.sorted fun x => ?_
  rw [mem_ptR, ← hL, Tr.mem_in hok', Tr.mem_in hok, h]
  have heq : 0 ≤ x.p.len → x.p.len ≤ 128 → zFrom x.p.a x.p.b x.p.len.toNat → ((x.p.len.toNat = r.p.len.toNat ∧ ∀ i, i < r.p.len.toNat → bitAt x.p.a x.p.b i = bitAt r.p.a r.p.b i) ↔ x.p = r.p) := fun h0 h1 hzx => by
    constructor
    · rintro ⟨c1, c2⟩
      have : x.p.a = r.p.a ∧ x.p.b = r.p.b := bitAt_eq fun i hi => by
        by_cases hik : i < r.p.len.toNat
        · exact c2 i hik
        · rw [hzx i hi (by omega), hz' i hi (by omega)]
      have hl : x.p.len = r.p.len := by omega
      obtain ⟨⟨xa, xb, xl⟩, xv⟩ := x
      obtain ⟨⟨ra, rb, rl⟩, rv⟩ := r
      simp_all
    · intro e; rw [e]; exact ⟨rfl, fun _ _ => rfl⟩
  constructor
  · rintro ⟨⟨h0, h1, hzx⟩, h2, h3⟩
    split at h2
    · rename_i hc
      have hp := (heq h0 h1 hzx).1 hc
      refine .inl ?_
      obtain ⟨xp, xv⟩ := x
      obtain ⟨rp, rv⟩ := r
      simp_all
    · rename_i hc
      exact .inr ⟨⟨⟨h0, h1, hzx⟩, h2, h3⟩, fun e => hc ((heq h0 h1 hzx).2 e)⟩
  · rintro (rfl | ⟨⟨⟨h0, h1, hzx⟩, h2, h3⟩, hne⟩)
    · exact ⟨⟨k0, by rcases hw with rfl | rfl <;> omega, hz'⟩, by rw [if_pos ⟨rfl, fun _ _ => rfl⟩], ha⟩
    · exact ⟨⟨h0, h1, hzx⟩, by rw [if_neg fun hc => hne ((heq h0 h1 hzx).1 hc)]; exact h2, h3⟩

end Go.Sx.M
namespace Go.Proofs.Ytfpofdlpgocnlaa.L1
open Go.Sx Go.Sx.M

def putH (w len : Int) : List Hint := [.cell (.int .i64 w), .fork [] [.fork [.cell (.int .i64 len), .fork [] [.cell (.int .i64 len), .nw, .wrc [53]]] [.wrc [53]]]]

noncomputable def putCs : List (FuncId × Sx.Spec) := [(52, genSpec [none, none] rrrF), (20, memR [none, none] getF), (53, memW [none, none] growF)]

theorem put_run (nb : Nat) (m : List AV) (w len : Int) (a b : BitVec 64) (k j : Int) (R : List AV → AV → Prop) : run putCs Try.prog 33 [.val (.pointer (some ⟨nb, 0, none⟩)), .agg [.w64 a, .w64 b, .int .i64 k, .int .i64 j]] [some ⟨true, memTy, 0, true, m⟩] (putH w len) (turnsR R) =
    (Option.isSome (some (Addr.mk nb (0 : Nat) none)) = true ∧ sure (some (Addr.mk nb (0 : Nat) none)) = true ∧ mread m (shift (some (Addr.mk nb (0 : Nat) none)) (0 : Nat)) false (1 : Nat) = some (AV.int IntKind.i64 w) ∧ ((!riR w (Ro.mk (Pf.mk a b k) j)) = true → R m (AV.tuple [AV.bool false, AV.int IntKind.i64 (1 : Int)])) ∧ ((!riR w (Ro.mk (Pf.mk a b k) j)) = false → ∃ (w : Int), ∃ (nb_1 : Nat), ∃ (len_1 : Int), ∃ (nds : Int), ∃ (t : Tr), TrV w nb_1 len_1 nds t m ∧ some (Addr.mk nb (0 : Nat) none) = some (Addr.mk nb_1 (0 : Nat) none) ∧ ((!Decidable.decide (Tr.act (nodeAt w t (Pf.mk a b k)) ≠ (0 : Int))) = true → Option.isSome (some (Addr.mk nb (0 : Nat) none)) = true ∧ sure (some (Addr.mk nb (0 : Nat) none)) = true ∧ mread m (shift (some (Addr.mk nb (0 : Nat) none)) (4 : Nat)) false (1 : Nat) = some (AV.int IntKind.i64 len) ∧ ((len == (256 : Int)) = true → R m (AV.tuple [AV.bool false, AV.int IntKind.i64 (6 : Int)])) ∧ ((len == (256 : Int)) = false → Option.isSome (some (Addr.mk nb (0 : Nat) none)) = true ∧ sure (some (Addr.mk nb (0 : Nat) none)) = true ∧ mread m (shift (some (Addr.mk nb (0 : Nat) none)) (4 : Nat)) false (1 : Nat) = some (AV.int IntKind.i64 len) ∧ inRange IntKind.i64 (len + (1 : Int)) ∧ Option.isSome (some (Addr.mk nb (0 : Nat) none)) = true ∧ sure (some (Addr.mk nb (0 : Nat) none)) = true ∧ Option.isSome (mwrite m (shift (some (Addr.mk nb (0 : Nat) none)) (4 : Nat)) (AV.int IntKind.i64 (len + (1 : Int)))) = true ∧ (∃ (w_1 : Int), ∃ (nb_2 : Nat), ∃ (len_2 : Int), ∃ (nds : Int), ∃ (t_1 : Tr), TrB w_1 nb_2 len_2 nds t_1 (mwr m (shift (some (Addr.mk nb (0 : Nat) none)) (4 : Nat)) (AV.int IntKind.i64 (len + (1 : Int)))) ∧ Tr.cfull t_1 ∧ nds = (↑(Tr.size t_1) : Int) ∧ Tr.ok (0 : Nat) t_1 ∧ some (Addr.mk nb (0 : Nat) none) = some (Addr.mk nb_2 (0 : Nat) none) ∧ (0 : Int) ≤ k ∧ k ≤ (128 : Int) ∧ nds ≤ (1000000 : Int) ∧ ∀ (m' : List AV) (t' : Tr) (nds' : Int), GrI w_1 nb_2 len_2 nds' (bitAt a b) t_1 (Int.toNat k) t' m' → Option.isSome (Tr.ptr (Tr.sub (bitAt a b) (0 : Nat) (Int.toNat k) t')) = true ∧ sure (Tr.ptr (Tr.sub (bitAt a b) (0 : Nat) (Int.toNat k) t')) = true ∧ Option.isSome (mwrite m' (shift (Tr.ptr (Tr.sub (bitAt a b) (0 : Nat) (Int.toNat k) t')) (2 : Nat)) (AV.int IntKind.i64 j)) = true ∧ R (mwr m' (shift (Tr.ptr (Tr.sub (bitAt a b) (0 : Nat) (Int.toNat k) t')) (2 : Nat)) (AV.int IntKind.i64 j)) (AV.tuple [AV.bool (Decidable.decide (Tr.act (nodeAt w t (Pf.mk a b k)) ≠ (0 : Int))), AV.int IntKind.i64 (0 : Int)])) ∧ ∃ (w_1 : Int), ∃ (nb_2 : Nat), ∃ (len_2 : Int), ∃ (nds : Int), ∃ (t_1 : Tr), TrB w_1 nb_2 len_2 nds t_1 (mwr m (shift (some (Addr.mk nb (0 : Nat) none)) (4 : Nat)) (AV.int IntKind.i64 (len + (1 : Int)))) ∧ Tr.cfull t_1 ∧ nds = (↑(Tr.size t_1) : Int) ∧ Tr.ok (0 : Nat) t_1 ∧ some (Addr.mk nb (0 : Nat) none) = some (Addr.mk nb_2 (0 : Nat) none) ∧ (0 : Int) ≤ k ∧ k ≤ (128 : Int) ∧ nds ≤ (1000000 : Int) ∧ ∀ (m' : List AV) (t' : Tr) (nds' : Int), GrI w_1 nb_2 len_2 nds' (bitAt a b) t_1 (Int.toNat k) t' m' → Option.isSome (Tr.ptr (Tr.sub (bitAt a b) (0 : Nat) (Int.toNat k) t')) = true ∧ sure (Tr.ptr (Tr.sub (bitAt a b) (0 : Nat) (Int.toNat k) t')) = true ∧ Option.isSome (mwrite m' (shift (Tr.ptr (Tr.sub (bitAt a b) (0 : Nat) (Int.toNat k) t')) (2 : Nat)) (AV.int IntKind.i64 j)) = true ∧ R (mwr m' (shift (Tr.ptr (Tr.sub (bitAt a b) (0 : Nat) (Int.toNat k) t')) (2 : Nat)) (AV.int IntKind.i64 j)) (AV.tuple [AV.bool (Decidable.decide (Tr.act (nodeAt w t (Pf.mk a b k)) ≠ (0 : Int))), AV.int IntKind.i64 (0 : Int)]))) ∧ ((!Decidable.decide (Tr.act (nodeAt w t (Pf.mk a b k)) ≠ (0 : Int))) = false → (∃ (w_1 : Int), ∃ (nb_2 : Nat), ∃ (len : Int), ∃ (nds : Int), ∃ (t_1 : Tr), TrB w_1 nb_2 len nds t_1 m ∧ Tr.cfull t_1 ∧ nds = (↑(Tr.size t_1) : Int) ∧ Tr.ok (0 : Nat) t_1 ∧ some (Addr.mk nb (0 : Nat) none) = some (Addr.mk nb_2 (0 : Nat) none) ∧ (0 : Int) ≤ k ∧ k ≤ (128 : Int) ∧ nds ≤ (1000000 : Int) ∧ ∀ (m' : List AV) (t' : Tr) (nds' : Int), GrI w_1 nb_2 len nds' (bitAt a b) t_1 (Int.toNat k) t' m' → Option.isSome (Tr.ptr (Tr.sub (bitAt a b) (0 : Nat) (Int.toNat k) t')) = true ∧ sure (Tr.ptr (Tr.sub (bitAt a b) (0 : Nat) (Int.toNat k) t')) = true ∧ Option.isSome (mwrite m' (shift (Tr.ptr (Tr.sub (bitAt a b) (0 : Nat) (Int.toNat k) t')) (2 : Nat)) (AV.int IntKind.i64 j)) = true ∧ R (mwr m' (shift (Tr.ptr (Tr.sub (bitAt a b) (0 : Nat) (Int.toNat k) t')) (2 : Nat)) (AV.int IntKind.i64 j)) (AV.tuple [AV.bool (Decidable.decide (Tr.act (nodeAt w t (Pf.mk a b k)) ≠ (0 : Int))), AV.int IntKind.i64 (0 : Int)])) ∧ ∃ (w_1 : Int), ∃ (nb_2 : Nat), ∃ (len : Int), ∃ (nds : Int), ∃ (t_1 : Tr), TrB w_1 nb_2 len nds t_1 m ∧ Tr.cfull t_1 ∧ nds = (↑(Tr.size t_1) : Int) ∧ Tr.ok (0 : Nat) t_1 ∧ some (Addr.mk nb (0 : Nat) none) = some (Addr.mk nb_2 (0 : Nat) none) ∧ (0 : Int) ≤ k ∧ k ≤ (128 : Int) ∧ nds ≤ (1000000 : Int) ∧ ∀ (m' : List AV) (t' : Tr) (nds' : Int), GrI w_1 nb_2 len nds' (bitAt a b) t_1 (Int.toNat k) t' m' → Option.isSome (Tr.ptr (Tr.sub (bitAt a b) (0 : Nat) (Int.toNat k) t')) = true ∧ sure (Tr.ptr (Tr.sub (bitAt a b) (0 : Nat) (Int.toNat k) t')) = true ∧ Option.isSome (mwrite m' (shift (Tr.ptr (Tr.sub (bitAt a b) (0 : Nat) (Int.toNat k) t')) (2 : Nat)) (AV.int IntKind.i64 j)) = true ∧ R (mwr m' (shift (Tr.ptr (Tr.sub (bitAt a b) (0 : Nat) (Int.toNat k) t')) (2 : Nat)) (AV.int IntKind.i64 j)) (AV.tuple [AV.bool (Decidable.decide (Tr.act (nodeAt w t (Pf.mk a b k)) ≠ (0 : Int))), AV.int IntKind.i64 (0 : Int)])))) := by kernel_rfl

def putF : List AV → List Arg → (List AV → AV → Prop) → Prop
  | m, [.v (.val (.pointer q)), .v (.agg [.w64 a, .w64 b, .int .i64 k, .int .i64 j])], R => ∃ (w : Int) (nb : Nat) (t : Tr) (L : List Ro), TrT w nb m t L ∧ q = some ⟨nb, 0, none⟩ ∧
      ∀ m' t', TrT w nb m' t' (dT w L true ⟨⟨a, b, k⟩, j⟩) → R m' (.tuple [.bool (dB w L true ⟨⟨a, b, k⟩, j⟩), .int .i64 (dE w L true ⟨⟨a, b, k⟩, j⟩)])
  | _, _, _ => False

theorem putCs_ok : ∀ e ∈ putCs, SpecOK Try.prog e.1 e.2 := by
  intro e he
  simp only [putCs, List.mem_cons, List.not_mem_nil, or_false] at he
  rcases he with rfl | rfl | rfl
  · exact gright6_ok
  · exact get_ok
  · exact grow_ok

theorem tb_put {w : Int} {L : List Ro} (h : TB w L) {r : Ro} (hr : riR w r = true) (hc : (fdR L r.p).isSome = true ∨ L.length < 256) : TB w (ptR L r) ∧ (ptR L r).length = L.length + (if (fdR L r.p).isSome then 0 else 1) := by
  have hlen : (ptR L r).length = (drR L r.p).length + 1 := by unfold ptR; exact inR_length _ _
  rcases fdR_cases L r.p with ⟨e, hn⟩ | ⟨x, hx, hxp, e⟩
  · rw [e] at hc ⊢
    have hl : L.length < 256 := hc.resolve_left (by simp)
    refine ⟨ptR_tb h hl hr, ?_⟩
    rw [hlen, drR_none hn]; rfl
  · rw [e]
    have h2 := drR_found h hx
    rw [hxp] at h2
    have hm := h.most
    refine ⟨?_, by rw [hlen]; simp; omega⟩
    have := ptR_tb (drR_tb h r.p) (r := r) (by omega) hr
    unfold ptR at this
    rw [drR_none (l := drR L r.p) fun y hy => (mem_drR.1 hy).2] at this
    exact this

/-- Behind grow and the number: the trie that Put leaves. -/
theorem put_done {w : Int} {nb : Nat} {m m1 : List AV} {t : Tr} {L : List Ro} {len1 nds1 : Int} (hT : TrT w nb m t L) {r : Ro} (hr : riR w r = true) (hc : (fdR L r.p).isSome = true ∨ L.length < 256) (hl : len1 = ((L.length + (if (fdR L r.p).isSome then 0 else 1) : Nat) : Int)) {t1 : Tr}
    (h : GrI w nb len1 nds1 (bitAt r.p.a r.p.b) t r.p.len.toNat t1 m1) : (Tr.sub (bitAt r.p.a r.p.b) 0 r.p.len.toNat t1).ptr.isSome = true ∧ sure (Tr.sub (bitAt r.p.a r.p.b) 0 r.p.len.toNat t1).ptr = true ∧
      (mwrite m1 (shift (Tr.sub (bitAt r.p.a r.p.b) 0 r.p.len.toNat t1).ptr 2) (.int .i64 r.act)).isSome = true ∧ ∃ t', TrT w nb (mwr m1 (shift (Tr.sub (bitAt r.p.a r.p.b) 0 r.p.len.toNat t1).ptr 2) (.int .i64 r.act)) t' (ptR L r) := by
  have ha : r.act ≠ 0 := fun e => by
    unfold riR at hr
    rw [e] at hr
    simp at hr
  obtain ⟨h1, h2, h3, t', hB, hsz, hok', hcf, hact⟩ := h.done ha
  obtain ⟨htb, hlen⟩ := tb_put hT.tb hr hc
  have hlist := put_list hT.ok hT.list hok' hr htb hact
  exact ⟨h1, h2, h3, t', ⟨len1, nds1, hB.v hcf (by rw [hlist, hl, hlen]) hsz⟩, hlist, htb⟩

theorem put_ok : SpecOK Try.prog 33 (memW [none, none] putF) := by
  refine memW_ok (run_ok (l := putCs) putCs_ok mixed noNG) fun m l R hF => ?_
  unfold putF at hF
  split at hF
  · rename_i q a b k j
    obtain ⟨w, nb, t, L, hT, rfl, hR⟩ := hF
    obtain ⟨len, nds, hV⟩ := hT.v
    refine ⟨putH w len, ?_⟩
    show run putCs Try.prog _ [.val (.pointer (some ⟨nb, 0, none⟩)), .agg [.w64 a, .w64 b, .int .i64 k, .int .i64 j]] [some ⟨true, memTy, 0, true, m⟩] _ _
    rw [put_run]
    have hlenL : len = (L.length : Int) := by rw [hV.len, hT.list]
    refine ⟨rfl, rfl, hV.width, fun h => ?_, fun h => ?_⟩
    · have h : riR w ⟨⟨a, b, k⟩, j⟩ = false := by simpa using h
      have e1 : dT w L true ⟨⟨a, b, k⟩, j⟩ = L := by unfold dT; rw [h]; rfl
      have e2 : dB w L true ⟨⟨a, b, k⟩, j⟩ = false := by unfold dB; rw [h]; rfl
      have e3 : dE w L true ⟨⟨a, b, k⟩, j⟩ = 1 := by unfold dE; rw [h]; rfl
      have := hR m t (by rw [e1]; exact hT)
      rw [e2, e3] at this
      exact this
    · have h : riR w ⟨⟨a, b, k⟩, j⟩ = true := by simpa using h
      have hrp : riP w ⟨a, b, k⟩ = true := by unfold riR at h; exact (Bool.and_eq_true _ _ ▸ h).1
      obtain ⟨hw, k0, k1, _⟩ := riP_iff.1 hrp
      have k0 : 0 ≤ k := k0
      have k1 : k ≤ w := k1
      obtain ⟨g1, g2⟩ := get_eq hT ⟨a, b, k⟩
      rw [if_pos hrp] at g2
      have hnodes := trt_nodes hT
      have hsz := hV.nds
      have e2 : dB w L true ⟨⟨a, b, k⟩, j⟩ = (fdR L ⟨a, b, k⟩).isSome := by unfold dB; rw [h]; rfl
      have e1 : dT w L true ⟨⟨a, b, k⟩, j⟩ = if (fdR L ⟨a, b, k⟩).isSome || decide (L.length < 256) then ptR L ⟨⟨a, b, k⟩, j⟩ else L := by unfold dT; rw [h]; rfl
      have e3 : dE w L true ⟨⟨a, b, k⟩, j⟩ = if (fdR L ⟨a, b, k⟩).isSome || decide (L.length < 256) then 0 else 6 := by unfold dE; rw [h]; rfl
      have main : ∀ (m2 : List AV) (len2 : Int), TrB w nb len2 nds t m2 → ((fdR L ⟨a, b, k⟩).isSome = true ∨ L.length < 256) → len2 = ((L.length + (if (fdR L ⟨a, b, k⟩).isSome then 0 else 1) : Nat) : Int) →
          ∃ (w_1 : Int) (nb_2 : Nat) (len_2 : Int) (nds : Int) (t_1 : Tr), TrB w_1 nb_2 len_2 nds t_1 m2 ∧ t_1.cfull ∧ nds = (t_1.size : Int) ∧ Tr.ok 0 t_1 ∧ some (Addr.mk nb 0 none) = some (Addr.mk nb_2 0 none) ∧ 0 ≤ k ∧ k ≤ 128 ∧ nds ≤ 1000000 ∧ ∀ (m' : List AV) (t' : Tr) (nds' : Int), GrI w_1 nb_2 len_2 nds' (bitAt a b) t_1 k.toNat t' m' →
            (Tr.sub (bitAt a b) 0 k.toNat t').ptr.isSome = true ∧ sure (Tr.sub (bitAt a b) 0 k.toNat t').ptr = true ∧ (mwrite m' (shift (Tr.sub (bitAt a b) 0 k.toNat t').ptr 2) (.int .i64 j)).isSome = true ∧
              R (mwr m' (shift (Tr.sub (bitAt a b) 0 k.toNat t').ptr 2) (.int .i64 j)) (.tuple [.bool (decide ((nodeAt w t ⟨a, b, k⟩).act ≠ 0)), .int .i64 0]) := by
        intro m2 len2 hB hc hl2
        refine ⟨w, nb, len2, nds, t, hB, hV.cfull, hsz, hT.ok, rfl, k0, by omega, by omega, fun m' t' nds' hG => ?_⟩
        obtain ⟨p1, p2, p3, t'', hT'⟩ := put_done (r := ⟨⟨a, b, k⟩, j⟩) hT h hc hl2 hG
        refine ⟨p1, p2, p3, ?_⟩
        have hcond : ((fdR L ⟨a, b, k⟩).isSome || decide (L.length < 256)) = true := by
          rcases hc with hc | hc
          · rw [hc]; rfl
          · rw [decide_eq_true hc, Bool.or_true]
        rw [hcond, if_pos rfl] at e1 e3
        have := hR _ t'' (by rw [e1]; exact hT')
        rw [e2, e3] at this
        rw [g2]
        exact this
      refine ⟨w, nb, len, nds, t, hV, rfl, fun hn => ?_, fun hs => ?_⟩
      · have hn : (fdR L ⟨a, b, k⟩).isSome = false := by rw [← g2]; simpa using hn
        refine ⟨rfl, rfl, TrV.at4 hV, fun hl => ?_, fun hl => ?_⟩
        · have hl : len = 256 := by simpa using hl
          have hcond : ((fdR L ⟨a, b, k⟩).isSome || decide (L.length < 256)) = false := by rw [hn, decide_eq_false (by omega)]; rfl
          rw [hcond, if_neg (by decide)] at e1 e3
          have := hR m t (by rw [e1]; exact hT)
          rw [e2, e3, hn] at this
          exact this
        · have hl : len ≠ 256 := by simpa using hl
          have hm := hT.tb.most
          have hlt : L.length < 256 := by omega
          obtain ⟨f1, f2, f3, f4⟩ := hV.b.field (i := 4) (.inl rfl) (len + 1)
          have hB : TrB w nb (len + 1) nds t (mwr m (shift (some ⟨nb, 0, none⟩) 4) (.int .i64 (len + 1))) := ⟨f2, hV.b.root, f3, hV.b.apart, f4⟩
          have hh := main _ _ hB (.inr hlt) (by rw [hn]; simp; omega)
          exact ⟨rfl, rfl, TrV.at4 hV, inR (by omega) (by omega), rfl, rfl, f1, hh, hh⟩
      · have hs : (fdR L ⟨a, b, k⟩).isSome = true := by rw [← g2]; simpa using hs
        have hh := main m len hV.b (.inl hs) (by rw [hs]; simp; omega)
        exact ⟨hh, hh⟩
  · exact hF.elim

end Go.Proofs.Ytfpofdlpgocnlaa.L1
end

