/-
  What is said of maps (XMt) holds of the program's: of sets of numbers.
-/
import Derived.Test.YtlmhnfkbingmdaaSxG
import Derived.Test.YtlmhnfkbingmdaaRows
import Derived.Maps.RangeRun
namespace Go.Proofs.Ytlmhnfkbingmdaa.L1
open Go Go.Proofs Go.RowKit Go.Sx Go.Sx.M Go.ChangeMaps Go.MapKept Go.WideElems

theorem noA_inj {L L' : List Int} (h : L.map noA = L'.map noA) : L = L' :=
  List.map_inj_right (f := noA) (fun _ _ h => by simpa [noA] using h) |>.1 h

theorem no_open {es : List AV} {b : Nat} {own : List Nat} {w : World} {L : List Int} (h : ObjR noT es b own w) (hes : es = L.map noA) : own = [b] ∧ ∃ l c, w.heap[b]? = some (.map l c) ∧ MapK l c L := by
  cases h with
  | raw m hm => exact absurd hm (by rintro (⟨h1, _⟩ | h1); exact absurd h1 (by decide); exact h1)
  | mk h0 ρ0 o0 hrep => exact hrep.elim
  | ext hx =>
    obtain ⟨_, h2, L', l, c, h3, h4, h5⟩ := hx
    obtain rfl := noA_inj (hes ▸ h3)
    exact ⟨h2, l, c, h4, h5⟩

/-- Of numbers none of which is there twice, and that are those of a list: as many as differ. -/
theorem dfN_is : ∀ (L K : List Int), K.Nodup → (∀ q, q ∈ K ↔ q ∈ L) → K.length = dfN L
  | [], K, _, h => by
    cases K with
    | nil => rfl
    | cons x K => exact absurd ((h x).1 List.mem_cons_self) (by simp)
  | x :: L, K, hn, h => by
    rw [dfN]
    by_cases hx : x ∈ L
    · rw [if_pos hx]
      refine dfN_is L K hn fun q => (h q).trans ⟨fun hq => ?_, fun hq => List.mem_cons_of_mem _ hq⟩
      rcases List.mem_cons.1 hq with rfl | hq
      · exact hx
      · exact hq
    · rw [if_neg hx]
      have hk : x ∈ K := (h x).2 List.mem_cons_self
      have := dfN_is L (K.erase x) (hn.erase x) fun q => by
        rw [hn.mem_erase_iff, h q, List.mem_cons]
        constructor
        · rintro ⟨h1, h2⟩
          exact h2.resolve_left h1
        · exact fun hq => ⟨fun e => hx (e ▸ hq), .inr hq⟩
      rw [← this, List.length_erase_of_mem hk]
      have : 0 < K.length := List.length_pos_of_mem hk
      omega

theorem mapK_size {es : Array MapEntry} {c : Nat} {L : List Int} (h : MapK es c L) : es.size = dfN L := by
  have hk : ∀ l : List MapEntry, (∀ x ∈ l, ∃ q, x.key = Value.int .i64 q ∧ q ∈ L) → ∃ K : List Int, l.map (·.key) = K.map (Value.int .i64) := by
    intro l
    induction l with
    | nil => exact fun _ => ⟨[], rfl⟩
    | cons x l ih =>
      intro hl
      obtain ⟨q, hq, _⟩ := hl x List.mem_cons_self
      obtain ⟨K, hK⟩ := ih fun y hy => hl y (List.mem_cons_of_mem _ hy)
      exact ⟨q :: K, by rw [List.map_cons, List.map_cons, hq, hK]⟩
  obtain ⟨K, hK⟩ := hk _ h.is
  have hlen : es.size = K.length := by
    have := congrArg List.length hK
    simpa using this
  rw [hlen]
  refine dfN_is L K ?_ fun q => ⟨fun hq => ?_, fun hq => ?_⟩
  · have : (es.toList.map (·.key)).Nodup := List.pairwise_map.2 h.apart
    rw [hK] at this
    exact (List.pairwise_map.1 this).imp fun hne e => hne (by rw [e])
  · have : Value.int .i64 q ∈ es.toList.map (·.key) := by rw [hK]; exact List.mem_map_of_mem hq
    obtain ⟨x, hx, hxk⟩ := List.mem_map.1 this
    obtain ⟨q', h1, h2⟩ := h.is x hx
    rw [h1] at hxk
    cases hxk
    exact h2
  · obtain ⟨x, hx, hxk⟩ := h.all q hq
    have : Value.int .i64 q ∈ es.toList.map (·.key) := List.mem_map.2 ⟨x, hx, hxk⟩
    rw [hK] at this
    obtain ⟨q', h1, h2⟩ := List.mem_map.1 this
    cases h2
    exact h1

theorem checkNo (em : Bool) (q : Int) (w : World) : (Instr.checkKey em 10000 3 (.int .i64 q)).run Try.prog w = .ok () w := by kernel_rfl

theorem staysNo (q : Int) (w : World) : (Instr.keyThatStays (.int .i64 q) (.int .i64 q)).run Try.prog w = .ok (.int .i64 q) w := by
  simp [Instr.keyThatStays, Instr.sameBits]

theorem nowNo (q : Int) (d : TypeDesc) (hd : ∃ k, d = .int k) : ∀ (l : List MapEntry) (i : Nat), (∀ e ∈ l, ∃ q, e.key = .int .i64 q) →
    (Instr.findNow d (.int .i64 q) l i = some none ∧ ∀ e ∈ l, e.key ≠ .int .i64 q) ∨ ∃ j e, Instr.findNow d (.int .i64 q) l i = some (some (i + j, e.val)) ∧ l[j]? = some e ∧ e.key = .int .i64 q
  | [], i, _ => .inl ⟨rfl, by simp⟩
  | e :: l, i, h => by
    obtain ⟨k, rfl⟩ := hd
    obtain ⟨p, hp⟩ := h e List.mem_cons_self
    by_cases hq : q = p
    · subst hq
      exact .inr ⟨0, e, by simp [Instr.findNow, Instr.sameNow, hp], rfl, hp⟩
    · have hne : e.key ≠ .int .i64 q := fun h => hq (by rw [hp] at h; cases h; rfl)
      rcases nowNo q (.int k) ⟨k, rfl⟩ l (i + 1) fun e he => h e (List.mem_cons_of_mem _ he) with ⟨h1, h2⟩ | ⟨j, e', h1, h2, h3⟩
      · refine .inl ⟨?_, fun e' he' => ?_⟩
        · simp only [Instr.findNow, Instr.sameNow, hp, if_true, beq_eq_false_iff_ne.2 hq, h1]
        · rcases List.mem_cons.1 he' with rfl | he'
          · exact hne
          · exact h2 e' he'
      · refine .inr ⟨j + 1, e', ?_, by simpa using h2, h3⟩
        simp only [Instr.findNow, Instr.sameNow, hp, if_true, beq_eq_false_iff_ne.2 hq, h1]
        rw [Nat.add_assoc, Nat.add_comm 1 j]

theorem findNo (q : Int) (w : World) (l : List MapEntry) (h : ∀ e ∈ l, ∃ q, e.key = .int .i64 q) :
    ((Instr.findKey 3 (.int .i64 q) l).run Try.prog w = .ok none w ∧ ∀ e ∈ l, e.key ≠ .int .i64 q) ∨ ∃ j e, (Instr.findKey 3 (.int .i64 q) l).run Try.prog w = .ok (some (j, e.val)) w ∧ l[j]? = some e ∧ e.key = .int .i64 q := by
  rcases nowNo q (.int .i64) ⟨_, rfl⟩ l 0 h with ⟨h1, h2⟩ | ⟨j, e, h1, h2, h3⟩
  · exact .inl ⟨by simp [Instr.findKey, run_underlying Try.underlying3, h1, Result.andThen], h2⟩
  · exact .inr ⟨j, e, by simp [Instr.findKey, run_underlying Try.underlying3, h1, Result.andThen], h2, h3⟩

theorem mapK_put {es es' : Array MapEntry} {c c' : Nat} {L : List Int} (h : MapK es c L) {q : Int} (hb : (es'.toList.map (·.born)).Nodup) (ho : ∀ x ∈ es'.toList, x.born < c') (hp : es'.toList.Pairwise fun x y => x.key ≠ y.key)
    (h1 : ∀ x ∈ es'.toList, x.key = .int .i64 q ∨ x ∈ es.toList) (h2 : ∃ x ∈ es'.toList, x.key = .int .i64 q) (h3 : ∀ x ∈ es.toList, x.key ≠ .int .i64 q → x ∈ es'.toList) : MapK es' c' (q :: L) := by
  refine ⟨hb, ho, fun x hx => ?_, fun p hp => ?_, hp⟩
  · rcases h1 x hx with e | e
    · exact ⟨q, e, List.mem_cons_self⟩
    · obtain ⟨p, g1, g2⟩ := h.is x e
      exact ⟨p, g1, List.mem_cons_of_mem _ g2⟩
  · by_cases e : p = q
    · subst e; exact h2
    · obtain ⟨x, hx, hk⟩ := h.all p ((List.mem_cons.1 hp).resolve_left e)
      exact ⟨x, h3 x hx (fun hk' => e (by rw [hk] at hk'; cases hk'; rfl)), hk⟩

theorem maps_ok : MapsOK Try.prog := by
  refine ⟨fun h => h.elim, ?_, ?_, fun h => h.elim, ?_⟩
  · rintro t es v b own w ty ⟨rfl, L, rfl, rfl⟩ ho
    obtain ⟨_, l, c, hb, hF⟩ := no_open ho rfl
    refine ⟨.int .i64 (dfN L), ?_, .int _ _⟩
    simp [noT, Builtin.len_, run_underlying Try.underlying83, MapKept.run_getObj_map hb, Result.andThen, goInt, mapK_size hF]
  · rintro t es es' k v b own w kv vv ⟨rfl, L, q, rfl, rfl, rfl, rfl⟩ ho hown hk hv
    obtain ⟨rfl, l, c, hb, hF⟩ := no_open ho rfl
    cases hk
    have keys : ∀ e ∈ l.toList, ∃ q, e.key = .int .i64 q := fun e he => let ⟨q, h1, _⟩ := hF.is e he; ⟨q, h1⟩
    have fin : ∀ l' c', MapK l' c' (q :: L) → ObjR noT (List.map noA (q :: L)) b [b] (setBlock w b (.map l' c')) ∧ (∀ g ∈ [b], g < (setBlock w b (.map l' c')).heap.size ∧ (g ∈ [b] ∨ w.heap.size ≤ g)) ∧ Bel (but w.heap.size [b]) w (setBlock w b (.map l' c')) := fun l' c' h => by
      have hs : (setBlock w b (.map l' c')).heap.size = w.heap.size := by unfold setBlock; simp
      refine ⟨.ext ⟨rfl, rfl, q :: L, l', c', rfl, heap_setBlock_same hb _, h⟩, fun g hg => ⟨by rw [hs]; exact hown g hg, .inl hg⟩, ⟨⟨rfl, rfl, rfl, by rw [hs]; exact Nat.le_refl _, fun g hg => heap_setBlock_other hb _ (fun e => hg.2 (List.mem_singleton.2 e))⟩, fun _ => Nat.le_refl _⟩⟩
    rcases findNo q w l.toList keys with ⟨h1, h2⟩ | ⟨j, e0, h1, h2, h3⟩
    · have hl : (l.push ⟨.int .i64 q, vv, c⟩).toList = l.toList ++ [⟨.int .i64 q, vv, c⟩] := by simp
      have hM : MapK (l.push ⟨.int .i64 q, vv, c⟩) (c + 1) (q :: L) := by
        refine mapK_put hF ?_ (fun x hx => ?_) ?_ (fun x hx => ?_) ⟨⟨.int .i64 q, vv, c⟩, by simp, rfl⟩ fun x hx _ => by rw [hl]; exact List.mem_append_left _ hx
        · rw [hl, List.map_append, List.map_cons, List.map_nil, List.nodup_append]
          refine ⟨hF.born, by simp, fun a ha d hd e => ?_⟩
          have hd : d = c := by simpa using hd
          obtain ⟨x, hx, rfl⟩ := List.mem_map.1 ha
          have := hF.old x hx
          omega
        · rw [hl] at hx
          rcases List.mem_append.1 hx with hx | hx
          · exact Nat.lt_succ_of_lt (hF.old x hx)
          · rw [List.mem_singleton] at hx; subst hx; exact Nat.lt_succ_self _
        · rw [hl, List.pairwise_append]
          refine ⟨hF.apart, List.pairwise_singleton _ _, fun x hx y hy => ?_⟩
          rw [List.mem_singleton] at hy; subst hy
          exact h2 x hx
        · rw [hl] at hx
          rcases List.mem_append.1 hx with hx | hx
          · exact .inr hx
          · rw [List.mem_singleton] at hx; subst hx; exact .inl rfl
      refine ⟨_, [b], ?_, fin _ _ hM⟩
      simp [noT, Instr.mapUpdate, run_underlying Try.underlying83, MapKept.run_getObj_map hb, checkNo, h1, MapKept.run_setObj_map _ hb, Result.andThen, setBlock]
    · have hj : l[j]? = some e0 := by simpa using h2
      have hset : (l.modify j (fun e' => { e' with key := .int .i64 q, val := vv })).toList = l.toList.set j { e0 with val := vv } := by
        rw [Array.toList_modify, modify_eq_set _ _ _ _ h2, ← h3]
      obtain ⟨hlt, hje⟩ := List.getElem?_eq_some_iff.1 h2
      have hsplit : l.toList = l.toList.take j ++ e0 :: l.toList.drop (j + 1) := by
        rw [← hje, List.getElem_cons_drop, List.take_append_drop]
      have hl : (l.modify j (fun e' => { e' with key := .int .i64 q, val := vv })).toList = l.toList.take j ++ { e0 with val := vv } :: l.toList.drop (j + 1) := by
        rw [hset, List.set_eq_take_append_cons_drop, if_pos hlt]
      have hap0 := hF.apart
      have hb0 := hF.born
      have hm0 : ∀ x, x ∈ l.toList ↔ x ∈ l.toList.take j ++ e0 :: l.toList.drop (j + 1) := fun x => by rw [← hsplit]
      rw [hsplit] at hap0 hb0
      generalize l.toList.take j = l1 at hl hap0 hb0 hm0
      generalize l.toList.drop (j + 1) = l2 at hl hap0 hb0 hm0
      obtain ⟨q1, q2, q3⟩ := List.pairwise_append.1 hap0
      obtain ⟨q4, q5⟩ := List.pairwise_cons.1 q2
      have hM : MapK (l.modify j (fun e' => { e' with key := .int .i64 q, val := vv })) c (q :: L) := by
        refine mapK_put hF ?_ (fun x hx => ?_) ?_ (fun x hx => ?_) ⟨{ e0 with val := vv }, by rw [hl]; simp, h3⟩ fun x hx hk => ?_
        · rw [hl]; simpa using hb0
        · rw [hl] at hx
          rcases List.mem_append.1 hx with hx | hx
          · exact hF.old x ((hm0 x).2 (List.mem_append_left _ hx))
          · rcases List.mem_cons.1 hx with rfl | hx
            · exact hF.old e0 (List.mem_of_getElem? h2)
            · exact hF.old x ((hm0 x).2 (List.mem_append_right _ (List.mem_cons_of_mem _ hx)))
        · rw [hl, List.pairwise_append]
          refine ⟨q1, List.pairwise_cons.2 ⟨q4, q5⟩, fun x hx y hy => ?_⟩
          rcases List.mem_cons.1 hy with rfl | hy
          · exact q3 x hx e0 List.mem_cons_self
          · exact q3 x hx y (List.mem_cons_of_mem _ hy)
        · rw [hl] at hx
          rcases List.mem_append.1 hx with hx | hx
          · exact .inr ((hm0 x).2 (List.mem_append_left _ hx))
          · rcases List.mem_cons.1 hx with rfl | hx
            · exact .inl h3
            · exact .inr ((hm0 x).2 (List.mem_append_right _ (List.mem_cons_of_mem _ hx)))
        · rw [hl]
          rcases List.mem_append.1 ((hm0 x).1 hx) with hx | hx
          · exact List.mem_append_left _ hx
          · rcases List.mem_cons.1 hx with rfl | hx
            · exact absurd h3 hk
            · exact List.mem_append_right _ (List.mem_cons_of_mem _ hx)
      refine ⟨_, [b], ?_, fin _ _ hM⟩
      simp [noT, Instr.mapUpdate, run_underlying Try.underlying83, MapKept.run_getObj_map hb, checkNo, h1, hj, h3, staysNo, MapKept.run_setObj_map _ hb, Result.andThen, setBlock]
  · rintro t es es' k v ⟨rfl, L, n, rfl, rfl, rfl, rfl⟩; exact ⟨rfl, rfl⟩

end Go.Proofs.Ytlmhnfkbingmdaa.L1
