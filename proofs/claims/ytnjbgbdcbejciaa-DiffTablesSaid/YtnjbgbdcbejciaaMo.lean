/-
  What is said of maps (XMt) holds of the program's: of maps from an entry to a number.
-/
import Derived.Test.YtnjbgbdcbejciaaSxG
import Derived.Test.YtnjbgbdcbejciaaL10J
import Derived.Maps.RangeRun
namespace Go.Proofs.Ytnjbgbdcbejciaa.L1
open Go Go.Proofs Go.RowKit Go.Sx Go.Sx.M Go.ChangeMaps Go.MapKept Go.WideElems

theorem fiA_inj : ∀ {L L' : List (En × Int)}, L.map fiA = L'.map fiA → L = L'
  | [], [], _ => rfl
  | [], _ :: _, h => by cases h
  | _ :: _, [], h => by cases h
  | x :: L, y :: L', h => by
    rw [List.map_cons, List.map_cons, List.cons.injEq] at h
    obtain ⟨h1, h2⟩ := h
    obtain ⟨⟨a, b, c, d, e, f⟩, n⟩ := x
    obtain ⟨⟨a', b', c', d', e', f'⟩, n'⟩ := y
    simp only [fiA, enA, AV.tuple.injEq, List.cons.injEq, AV.agg.injEq, AV.w64.injEq, AV.int.injEq, true_and, and_true] at h1
    obtain ⟨⟨rfl, rfl, rfl, rfl, rfl, rfl⟩, rfl⟩ := h1
    rw [fiA_inj h2]

theorem fi_open {es : List AV} {b : Nat} {own : List Nat} {w : World} {L : List (En × Int)} (h : ObjR fiT es b own w) (hes : es = L.map fiA) : own = [b] ∧ ∃ l c, w.heap[b]? = some (.map l c) ∧ MapF l c L := by
  cases h with
  | raw m hm => exact absurd hm (by rintro (⟨h1, _⟩ | h1); exact absurd h1 (by decide); exact h1)
  | mk h0 ρ0 o0 hrep => exact hrep.elim
  | ext hx =>
    rcases hx with ⟨h1, _⟩ | ⟨_, h2, L', l, c, h3, h4, h5⟩
    · exact absurd h1 (by decide)
    · obtain rfl := fiA_inj (hes ▸ h3)
      exact ⟨h2, l, c, h4, h5⟩

theorem mapF_keys {es : Array MapEntry} {c : Nat} {L : List (En × Int)} (h : MapF es c L) : ∀ e ∈ es.toList, ∃ q, e.key = valE q := fun e he => let ⟨q, _, h1, _⟩ := h.is e he; ⟨q, h1⟩

theorem mapF_put {es es' : Array MapEntry} {c c' : Nat} {L : List (En × Int)} (h : MapF es c L) {q : En} {n : Int} (hb : (es'.toList.map (·.born)).Nodup) (ho : ∀ x ∈ es'.toList, x.born < c') (hp : es'.toList.Pairwise fun x y => x.key ≠ y.key)
    (h1 : ∀ x ∈ es'.toList, (x.key = valE q ∧ x.val = .int .i64 n) ∨ (x ∈ es.toList ∧ x.key ≠ valE q)) (h2 : ∃ x ∈ es'.toList, x.key = valE q) (h3 : ∀ x ∈ es.toList, x.key ≠ valE q → x ∈ es'.toList) : MapF es' c' ((q, n) :: L) := by
  refine ⟨hb, ho, fun x hx => ?_, fun p hp => ?_, hp⟩
  · rcases h1 x hx with ⟨e1, e2⟩ | ⟨e1, e2⟩
    · exact ⟨q, n, e1, e2, by simp [fiG]⟩
    · obtain ⟨p, m, g1, g2, g3⟩ := h.is x e1
      refine ⟨p, m, g1, g2, ?_⟩
      rw [fiG, if_neg (fun e => e2 (by rw [g1]; exact congrArg valE e.symm))]
      exact g3
  · by_cases e : q = p
    · subst e; exact h2
    · rw [fiG, if_neg e] at hp
      obtain ⟨x, hx, hk⟩ := h.all p hp
      exact ⟨x, h3 x hx (fun hk' => e (valE_inj (hk' ▸ hk))), hk⟩

theorem maps_ok : MapsOK Try.prog := by
  refine ⟨?_, ?_, ?_, ?_⟩
  · rintro t es k v ok b own w kv ⟨rfl, L, q, rfl, rfl, rfl⟩ ho hk
    obtain ⟨_, l, c, hb, hF⟩ := fi_open ho rfl
    rw [enA_inv hk]
    rcases find47 q w l.toList (mapF_keys hF) with ⟨h1, h2⟩ | ⟨j, e, h1, h2, h3⟩
    · have hg : fiG q L = none := Classical.byContradiction fun hn => by
        obtain ⟨x, hx, e⟩ := hF.all q hn
        exact h2 x hx e
      rw [hg]
      cases ok with
      | true => exact ⟨.tuple #[.int .i64 0, .bool false], by simp [fiT, Instr.lookup, run_underlying Try.underlying133, MapKept.run_getObj_map hb, check47, h1, Result.andThen], .tuple (.cons (.int _ _) (.cons (.bool _) .nil))⟩
      | false => exact ⟨.int .i64 0, by simp [fiT, Instr.lookup, run_underlying Try.underlying133, MapKept.run_getObj_map hb, check47, h1, Result.andThen], .int _ _⟩
    · obtain ⟨p, n, e1, e2, e3⟩ := hF.is e (List.mem_of_getElem? h2)
      obtain rfl := valE_inj (e1 ▸ h3)
      rw [e3]
      rw [e2] at h1
      cases ok with
      | true => exact ⟨.tuple #[.int .i64 n, .bool true], by simp [fiT, Instr.lookup, run_underlying Try.underlying133, MapKept.run_getObj_map hb, check47, h1, Result.andThen], .tuple (.cons (.int _ _) (.cons (.bool _) .nil))⟩
      | false => exact ⟨.int .i64 n, by simp [fiT, Instr.lookup, run_underlying Try.underlying133, MapKept.run_getObj_map hb, check47, h1, Result.andThen], .int _ _⟩
  · rintro t es es' k v b own w kv vv ⟨rfl, L, q, n, rfl, rfl, rfl, rfl⟩ ho hown hk hv
    obtain ⟨rfl, l, c, hb, hF⟩ := fi_open ho rfl
    rw [enA_inv hk]
    cases hv
    have fin : ∀ l' c', MapF l' c' ((q, n) :: L) → ObjR fiT (List.map fiA ((q, n) :: L)) b [b] (setBlock w b (.map l' c')) ∧ (∀ g ∈ [b], g < (setBlock w b (.map l' c')).heap.size ∧ (g ∈ [b] ∨ w.heap.size ≤ g)) ∧ Bel (but w.heap.size [b]) w (setBlock w b (.map l' c')) := fun l' c' h => by
      have hs : (setBlock w b (.map l' c')).heap.size = w.heap.size := by unfold setBlock; simp
      refine ⟨.ext (.inr ⟨rfl, rfl, (q, n) :: L, l', c', rfl, heap_setBlock_same hb _, h⟩), fun g hg => ⟨by rw [hs]; exact hown g hg, .inl hg⟩, ⟨⟨rfl, rfl, rfl, by rw [hs]; exact Nat.le_refl _, fun g hg => heap_setBlock_other hb _ (fun e => hg.2 (List.mem_singleton.2 e))⟩, fun _ => Nat.le_refl _⟩⟩
    rcases find47 q w l.toList (mapF_keys hF) with ⟨h1, h2⟩ | ⟨j, e0, h1, h2, h3⟩
    · have hl : (l.push ⟨valE q, .int .i64 n, c⟩).toList = l.toList ++ [⟨valE q, .int .i64 n, c⟩] := by simp
      have hM : MapF (l.push ⟨valE q, .int .i64 n, c⟩) (c + 1) ((q, n) :: L) := by
        refine mapF_put hF ?_ (fun x hx => ?_) ?_ (fun x hx => ?_) ⟨⟨valE q, .int .i64 n, c⟩, by simp, rfl⟩ fun x hx _ => by rw [hl]; exact List.mem_append_left _ hx
        · rw [hl, List.map_append, List.map_cons, List.map_nil, List.nodup_append]
          refine ⟨hF.born, by simp, fun a ha d hd e => ?_⟩
          have hd : d = c := by simpa using hd
          obtain ⟨x, hx, rfl⟩ := List.mem_map.1 ha
          have := hF.old x hx
          omega
        · rw [hl] at hx
          rcases List.mem_append.1 hx with hx | hx
          · exact Nat.lt_succ_of_lt (hF.old x hx)
          · rw [List.mem_singleton] at hx; subst hx; exact Nat.lt_succ_self _
        · rw [hl, List.pairwise_append]
          refine ⟨hF.apart, List.pairwise_singleton _ _, fun x hx y hy => ?_⟩
          rw [List.mem_singleton] at hy; subst hy
          exact h2 x hx
        · rw [hl] at hx
          rcases List.mem_append.1 hx with hx | hx
          · exact .inr ⟨hx, h2 x hx⟩
          · rw [List.mem_singleton] at hx; subst hx; exact .inl ⟨rfl, rfl⟩
      refine ⟨_, [b], ?_, fin _ _ hM⟩
      simp [fiT, Instr.mapUpdate, run_underlying Try.underlying133, MapKept.run_getObj_map hb, check47, h1, MapKept.run_setObj_map _ hb, Result.andThen, setBlock]
    · have hj : l[j]? = some e0 := by simpa using h2
      have hset : (l.modify j (fun e' => { e' with key := valE q, val := .int .i64 n })).toList = l.toList.set j { e0 with val := .int .i64 n } := by
        rw [Array.toList_modify, modify_eq_set _ _ _ _ h2, ← h3]
      obtain ⟨hlt, hje⟩ := List.getElem?_eq_some_iff.1 h2
      have hsplit : l.toList = l.toList.take j ++ e0 :: l.toList.drop (j + 1) := by
        rw [← hje, List.getElem_cons_drop, List.take_append_drop]
      have hl : (l.modify j (fun e' => { e' with key := valE q, val := .int .i64 n })).toList = l.toList.take j ++ { e0 with val := .int .i64 n } :: l.toList.drop (j + 1) := by
        rw [hset, List.set_eq_take_append_cons_drop, if_pos hlt]
      have hap0 := hF.apart
      have hb0 := hF.born
      have hm0 : ∀ x, x ∈ l.toList ↔ x ∈ l.toList.take j ++ e0 :: l.toList.drop (j + 1) := fun x => by rw [← hsplit]
      rw [hsplit] at hap0 hb0
      generalize l.toList.take j = l1 at hl hap0 hb0 hm0
      generalize l.toList.drop (j + 1) = l2 at hl hap0 hb0 hm0
      obtain ⟨q1, q2, q3⟩ := List.pairwise_append.1 hap0
      obtain ⟨q4, q5⟩ := List.pairwise_cons.1 q2
      have hM : MapF (l.modify j (fun e' => { e' with key := valE q, val := .int .i64 n })) c ((q, n) :: L) := by
        refine mapF_put hF ?_ (fun x hx => ?_) ?_ (fun x hx => ?_) ⟨{ e0 with val := .int .i64 n }, by rw [hl]; simp, h3⟩ fun x hx hk => ?_
        · rw [hl]; simpa using hb0
        · rw [hl] at hx
          rcases List.mem_append.1 hx with hx | hx
          · exact hF.old x ((hm0 x).2 (List.mem_append_left _ hx))
          · rcases List.mem_cons.1 hx with rfl | hx
            · exact hF.old e0 (List.mem_of_getElem? h2)
            · exact hF.old x ((hm0 x).2 (List.mem_append_right _ (List.mem_cons_of_mem _ hx)))
        · rw [hl, List.pairwise_append]
          refine ⟨q1, List.pairwise_cons.2 ⟨q4, q5⟩, fun x hx y hy => ?_⟩
          rcases List.mem_cons.1 hy with rfl | hy
          · exact q3 x hx e0 List.mem_cons_self
          · exact q3 x hx y (List.mem_cons_of_mem _ hy)
        · rw [hl] at hx
          rcases List.mem_append.1 hx with hx | hx
          · exact .inr ⟨(hm0 x).2 (List.mem_append_left _ hx), fun e => q3 x hx e0 List.mem_cons_self (e.trans h3.symm)⟩
          · rcases List.mem_cons.1 hx with rfl | hx
            · exact .inl ⟨h3, rfl⟩
            · exact .inr ⟨(hm0 x).2 (List.mem_append_right _ (List.mem_cons_of_mem _ hx)), fun e => q4 x hx (h3.trans e.symm)⟩
        · rw [hl]
          rcases List.mem_append.1 ((hm0 x).1 hx) with hx | hx
          · exact List.mem_append_left _ hx
          · rcases List.mem_cons.1 hx with rfl | hx
            · exact absurd h3 hk
            · exact List.mem_append_right _ (List.mem_cons_of_mem _ hx)
      refine ⟨_, [b], ?_, fin _ _ hM⟩
      simp [fiT, Instr.mapUpdate, run_underlying Try.underlying133, MapKept.run_getObj_map hb, check47, h1, hj, h3, stays47, MapKept.run_setObj_map _ hb, Result.andThen, setBlock]
  · rintro t es k v ok ⟨rfl, L, q, rfl, rfl, rfl⟩; rfl
  · rintro t es es' k v ⟨rfl, L, q, n, rfl, rfl, rfl, rfl⟩; exact ⟨rfl, rfl⟩

end Go.Proofs.Ytnjbgbdcbejciaa.L1
