/-
  Layer 3: what is written of an address, or a prefix, is read as it, and only that.
-/
import Derived.Test.YtkdcajibehpeaaaDoorL3O
import Derived.Test.YtkdcajibehpeaaaDoorM07
namespace Go.Proofs.YtkdcajibehpeaaaDoor.L1
open Go.Sx Go.Sx.M Go.RowKit

theorem of_iff {w : Int} {a b : BitVec 64} : ofB w a b = true ↔ (w = 32 ∨ w = 128) ∧ ∀ i : Nat, i < 128 → w ≤ (i : Int) → bitAt a b i = false := by
  unfold ofB
  rw [Bool.and_eq_true, Bool.or_eq_true, beq_iff_eq, beq_iff_eq, cut_self]

theorem right_of {w : Int} {a b : BitVec 64} {n : Int} (h : rightB w a b n = true) : ofB w a b = true := by
  obtain ⟨h1, h2, h3, h4⟩ := right_iff h
  exact of_iff.2 ⟨h1, fun i hi hw => cut_self.1 h4 i hi (by omega)⟩

theorem range_map {α β : Type} {f : Nat → β} {g : α → β} {d : α} {vs : List α} {n : Nat} (hl : vs.length = n) (h : ∀ j, j < n → f j = g (vs.getD j d)) : (List.range n).map f = vs.map g := by
  apply List.ext_getElem?
  intro j
  by_cases hj : j < n
  · rw [List.getElem?_map, List.getElem?_map, List.getElem?_range hj, List.getElem?_eq_getElem (by omega)]
    simp only [Option.map_some]
    rw [h j hj, List.getD_eq_getElem?_getD, List.getElem?_eq_getElem (by omega)]; rfl
  · rw [List.getElem?_eq_none (by simp; omega), List.getElem?_eq_none (by simp; omega)]

theorem zero_bit (i : Nat) : bitAt 0#64 0#64 i = false := by unfold bitAt; split <;> simp

theorem parse_text {w : Int} {a b : BitVec 64} (h : ofB w a b = true) : parseA w (textA w a b) = some (a, b) := by
  obtain ⟨hw, hz⟩ := of_iff.1 h
  unfold textA
  rw [if_pos h]
  rcases hw with rfl | rfl
  · rw [if_pos rfl]
    unfold parseA
    rw [if_pos rfl]
    have hj := pgo_join (c := 46) (rV := r4V) (rB := r4B) (bits := 8) (tell := Lib.decDigits) ((List.range 4).map fun k => partV (fun i => bitAt a b (8 * k + i)) 8) 0 0#64 0#64 (by simp) fun v hv => by
      simp only [List.mem_map, List.mem_range] at hv
      obtain ⟨k, _, rfl⟩ := hv
      have hlt := partV_lt (fun i => bitAt a b (8 * k + i)) 8
      generalize partV (fun i => bitAt a b (8 * k + i)) 8 = v at hlt
      have h1 := num_fin ⟨v, hlt⟩
      have h2 := dot_fin ⟨v, hlt⟩
      have h3 : numV (Lib.decDigits v) 255 = (v : Int) := h1.2
      refine ⟨fun hm => ?_, h1.1, ?_⟩
      · rw [List.contains_iff_mem.2 hm] at h2; cases h2
      · unfold r4V; rw [h3]; omega
    rw [List.map_map] at hj
    have e : ((List.range 4).map fun k => partV (fun i => bitAt a b (8 * k + i)) 8).length = 4 := by simp
    rw [e] at hj
    unfold text4
    refine Eq.trans hj ?_
    rw [wbs_parts (n := 4) (.inl rfl) (by omega) fun i hi h => hz i hi (by omega)]
  · rw [if_neg (by decide)]
    unfold parseA
    rw [if_neg (by decide), if_pos rfl]
    have hj := pgo_join (c := 58) (rV := r6V) (rB := r6B) (bits := 16) (tell := hex4) ((List.range 8).map fun k => partV (fun i => bitAt a b (16 * k + i)) 16) 0 0#64 0#64 (by simp) fun v hv => by
      simp only [List.mem_map, List.mem_range] at hv
      obtain ⟨k, _, rfl⟩ := hv
      have hlt : partV (fun i => bitAt a b (16 * k + i)) 16 < 65536 := partV_lt _ 16
      generalize partV (fun i => bitAt a b (16 * k + i)) 16 = v at hlt
      obtain ⟨h1, h2⟩ := of_hex4 hlt
      refine ⟨fun hm => ?_, h1, by rw [h2]; omega⟩
      have e1 := (hxno_fin ⟨v / 4096, by omega⟩).2.2
      have e2 := (hxno_fin ⟨v / 256 % 16, by omega⟩).2.2
      have e3 := (hxno_fin ⟨v / 16 % 16, by omega⟩).2.2
      have e4 := (hxno_fin ⟨v % 16, by omega⟩).2.2
      simp only [hex4, List.mem_cons, List.not_mem_nil, or_false] at hm
      rcases hm with hm | hm | hm | hm
      · exact e1 hm.symm
      · exact e2 hm.symm
      · exact e3 hm.symm
      · exact e4 hm.symm
    rw [List.map_map] at hj
    have e : ((List.range 8).map fun k => partV (fun i => bitAt a b (16 * k + i)) 16).length = 8 := by simp
    rw [e] at hj
    unfold text6
    refine Eq.trans hj ?_
    rw [wbs_parts (n := 8) (.inr rfl) (by omega) fun i hi h => by omega]

theorem text_parse {w : Int} {l : List UInt8} {a b : BitVec 64} (h : parseA w l = some (a, b)) : ofB w a b = true ∧ textA w a b = l := by
  unfold parseA at h
  split at h
  · rename_i hw
    obtain ⟨vs, h1, h2, h3, h4⟩ := pgo_back (tell := Lib.decDigits) (fun t ht => dec_num ht) 3 0 _ _ l a b h
    have hv : ∀ j, j < 4 → vs.getD j 0 < 2 ^ 8 := fun j hj => by
      rw [List.getD_eq_getElem?_getD, List.getElem?_eq_getElem (by omega)]
      obtain ⟨t, ht, e⟩ := h4 _ (List.getElem_mem (by omega : j < vs.length))
      have := r4_bound ht
      change _ = (r4V t).toNat at e
      simp only [Option.getD_some]
      rw [e]; omega
    have ha : a = (wbs 8 vs 0 0#64 0#64).1 := by rw [← h3]
    have hb : b = (wbs 8 vs 0 0#64 0#64).2 := by rw [← h3]
    have ho : ofB w a b = true := of_iff.2 ⟨.inl hw, fun i hi hwi => by
      rw [ha, hb, wbs_bit (.inl rfl) hi, if_neg (by omega), zero_bit]⟩
    refine ⟨ho, ?_⟩
    unfold textA
    rw [if_pos ho, if_pos hw, h2]
    unfold text4
    congr 1
    refine range_map (d := 0) h1 fun j hj => ?_
    rw [ha, hb, wbs_part (.inl rfl) (by omega) (by omega) (hv j hj)]
  · split at h
    · rename_i hw1 hw
      obtain ⟨vs, h1, h2, h3, h4⟩ := pgo_back (tell := hex4) (fun t ht => hex4_of ht) 7 0 _ _ l a b h
      have hv : ∀ j, j < 8 → vs.getD j 0 < 2 ^ 16 := fun j hj => by
        rw [List.getD_eq_getElem?_getD, List.getElem?_eq_getElem (by omega)]
        obtain ⟨t, ht, e⟩ := h4 _ (List.getElem_mem (by omega : j < vs.length))
        have := r6_bound ht
        simp only [Option.getD_some]
        rw [e]; omega
      have ha : a = (wbs 16 vs 0 0#64 0#64).1 := by rw [← h3]
      have hb : b = (wbs 16 vs 0 0#64 0#64).2 := by rw [← h3]
      have ho : ofB w a b = true := of_iff.2 ⟨.inr hw, fun i hi hwi => by omega⟩
      refine ⟨ho, ?_⟩
      unfold textA
      rw [if_pos ho, if_neg hw1, h2]
      unfold text6
      congr 1
      refine range_map (d := 0) h1 fun j hj => ?_
      rw [ha, hb, wbs_part (.inr rfl) (by omega) (by omega) (hv j hj)]
    · cases h

theorem pa_some {w : Int} {l : List UInt8} (h : paE w l = 0) : parseA w l = some (paX w l, paY w l) := by
  unfold paE at h
  split at h
  · split at h
    · rename_i p hp
      unfold paX paY
      rw [hp]
    · omega
  · omega

theorem pa_none {w : Int} {l : List UInt8} (h : paE w l ≠ 0) : paX w l = 0#64 ∧ paY w l = 0#64 := by
  unfold paE at h
  unfold paX paY
  split at h
  · split at h
    · omega
    · exact ⟨rfl, rfl⟩
  · rename_i hw
    have : parseA w l = none := by unfold parseA; rw [if_neg (by omega), if_neg (by omega)]
    rw [this]; exact ⟨rfl, rfl⟩

theorem pa_of {w : Int} {l : List UInt8} {a b : BitVec 64} (h : parseA w l = some (a, b)) : paE w l = 0 ∧ paX w l = a ∧ paY w l = b := by
  have hw := (of_iff.1 (text_parse h).1).1
  unfold paE paX paY
  rw [h, if_pos hw]; exact ⟨rfl, rfl, rfl⟩

theorem addr_back {w : Int} {l : List UInt8} (h : paE w l = 0) : textA w (paX w l) (paY w l) = l := (text_parse (pa_some h)).2

theorem pp_parts {w : Int} {l : List UInt8} (h : ppE w l = 0) : paE w (ppA l) = 0 ∧ numOK (ppB l) 128 = true ∧ rightB w (paX w (ppA l)) (paY w (ppA l)) (numV (ppB l) 128) = true ∧ ppX w l = paX w (ppA l) ∧ ppY w l = paY w (ppA l) ∧ ppN w l = numV (ppB l) 128 := by
  have h0 := h
  unfold ppE at h
  split at h
  · rename_i h1; exact absurd h h1
  · rename_i h1
    split at h
    · rename_i h2
      split at h
      · rename_i h3
        unfold ppX ppY ppN
        rw [if_pos h0, if_pos h0, if_pos h0]
        exact ⟨by omega, h2, h3, rfl, rfl, rfl⟩
      · omega
    · omega

theorem numOK_nil (m : Int) : numOK [] m = false := by simp [numOK]

theorem prefix_back {w : Int} {l : List UInt8} (h : ppE w l = 0) : textP w (ppX w l) (ppY w l) (ppN w l) = l := by
  obtain ⟨h1, h2, h3, e1, e2, e3⟩ := pp_parts h
  rw [e1, e2, e3]
  unfold textP
  rw [if_pos h3, addr_back h1, dec_num h2]
  have hb := cutL_back 47 l
  cases hf : (cutL 47 l).2.2 with
  | true => exact (hb.1 hf).symm
  | false =>
    have : ppB l = [] := (hb.2 hf).2
    rw [this, numOK_nil] at h2; cases h2

theorem mem_join {c : UInt8} {x : UInt8} (hx : x ≠ c) : ∀ {l : List (List UInt8)}, x ∈ Lib.join l [c] → ∃ t ∈ l, x ∈ t
  | [], h => by simp [Lib.join] at h
  | [t], h => by rw [join_one'] at h; exact ⟨t, by simp, h⟩
  | t :: t' :: r, h => by
    rw [join_two, List.mem_append, List.mem_append] at h
    rcases h with (h | h) | h
    · exact ⟨t, by simp, h⟩
    · simp at h; exact absurd h hx
    · obtain ⟨s, hs, hm⟩ := mem_join hx h
      exact ⟨s, by simp at hs ⊢; exact .inr hs, hm⟩

theorem text_slash (w : Int) (a b : BitVec 64) : (47 : UInt8) ∉ textA w a b := by
  intro hm
  unfold textA at hm
  split at hm
  · split at hm
    · obtain ⟨t, ht, hx⟩ := mem_join (by decide) hm
      simp only [List.mem_map, List.mem_range] at ht
      obtain ⟨k, _, rfl⟩ := ht
      have := slash_fin ⟨_, partV_lt (fun i => bitAt a b (8 * k + i)) 8⟩
      rw [List.contains_iff_mem.2 hx] at this; cases this
    · obtain ⟨t, ht, hx⟩ := mem_join (by decide) hm
      simp only [List.mem_map, List.mem_range] at ht
      obtain ⟨k, _, rfl⟩ := ht
      have hlt : partV (fun i => bitAt a b (16 * k + i)) 16 < 65536 := partV_lt _ 16
      generalize partV (fun i => bitAt a b (16 * k + i)) 16 = v at hlt hx
      have e1 := (hxno_fin ⟨v / 4096, by omega⟩).2.1
      have e2 := (hxno_fin ⟨v / 256 % 16, by omega⟩).2.1
      have e3 := (hxno_fin ⟨v / 16 % 16, by omega⟩).2.1
      have e4 := (hxno_fin ⟨v % 16, by omega⟩).2.1
      simp only [hex4, List.mem_cons, List.not_mem_nil, or_false] at hx
      rcases hx with hm | hm | hm | hm
      · exact e1 hm.symm
      · exact e2 hm.symm
      · exact e3 hm.symm
      · exact e4 hm.symm
  · cases hm

theorem prefix_parse {w : Int} {a b : BitVec 64} {n : Int} (h : rightB w a b n = true) : ppE w (textP w a b n) = 0 ∧ ppX w (textP w a b n) = a ∧ ppY w (textP w a b n) = b ∧ ppN w (textP w a b n) = n := by
  obtain ⟨h1, h2, h3, _⟩ := right_iff h
  have ht : textP w a b n = textA w a b ++ [47] ++ Lib.decDigits n.toNat := by unfold textP; rw [if_pos h]
  have hc := cutL_at (c := 47) (m := Lib.decDigits n.toNat) (text_slash w a b)
  have hA : ppA (textP w a b n) = textA w a b := by unfold ppA; rw [ht, hc]
  have hB : ppB (textP w a b n) = Lib.decDigits n.toNat := by unfold ppB; rw [ht, hc]
  obtain ⟨p1, p2, p3⟩ := pa_of (parse_text (right_of h))
  obtain ⟨q1, q2⟩ := num128_fin ⟨n.toNat, by omega⟩
  have q3 : numV (Lib.decDigits n.toNat) 128 = n := by
    have : numV (Lib.decDigits n.toNat) 128 = ((n.toNat : Nat) : Int) := q2
    omega
  have hE : ppE w (textP w a b n) = 0 := by
    unfold ppE
    rw [hA, hB, p1, p2, p3, q3, if_neg (by simp), if_pos q1, if_pos h]
  unfold ppX ppY ppN
  rw [if_pos hE, if_pos hE, if_pos hE, hA, hB]
  exact ⟨hE, p2, p3, q3⟩

theorem forall_tx {p : ByteArray → Prop} (h : ∀ l, p (tx l)) (s : ByteArray) : p s := by rw [← tx_of s]; exact h _

/-- WrittenOnly: the call. -/
theorem only_walk_l (w0 : Int) (l : List UInt8) : ∃ hs, run onlyCs Tryd.prog 6 [.int .i64 w0, .val (.string (tx l))] [] hs isTrue := by
  refine ⟨onlyH, ?_⟩
  rw [only_run]
  rw [tx_data, tx_size, tx_beq, tx_beq]
  have hA : (paE w0 l != 0) = false → decide (textA w0 (paX w0 l) (paY w0 l) = l) = true := fun h => decide_eq_true (addr_back (by simpa using h))
  refine ⟨fun _ => rfl, fun h => ?_⟩
  have hl : l.length ≤ 1000000 := by simp at h; omega
  refine ⟨hl, hl, fun h1 => ⟨fun _ => rfl, fun h2 => ⟨hA h2, rfl⟩⟩, fun h1 => ⟨decide_eq_true (prefix_back (by simpa using h1)), fun _ => rfl, fun h2 => ⟨hA h2, rfl⟩⟩⟩

theorem only_walk (w0 : Int) (s : ByteArray) : ∃ hs, run onlyCs Tryd.prog 6 [.int .i64 w0, .val (.string s)] [] hs isTrue :=
  forall_tx (p := fun s => ∃ hs, run onlyCs Tryd.prog 6 [.int .i64 w0, .val (.string s)] [] hs isTrue) (only_walk_l w0) s

/-- WrittenApart: the call. -/
theorem apart_walk (w : Int) (a b : BitVec 64) (n : Int) (c d : BitVec 64) (m : Int) : ∃ hs, run onlyCs Tryd.prog 9 [.int .i64 w, .agg [.w64 a, .w64 b, .int .i64 n], .agg [.w64 c, .w64 d, .int .i64 m]] [] hs isTrue := by
  refine ⟨apartH, ?_⟩
  rw [apart_run]
  refine ⟨fun _ => rfl, fun h1 => ⟨fun _ => rfl, fun h2 => ?_⟩⟩
  have h1 : rightB w a b n = true := by simpa using h1
  have h2 : rightB w c d m = true := by simpa using h2
  refine ⟨?_, ?_, rfl⟩
  · rw [tx_beq, beq_iff_eq, Bool.eq_iff_iff, decide_eq_true_eq, Bool.and_eq_true, Bool.and_eq_true, beq_iff_eq, beq_iff_eq, beq_iff_eq]
    refine ⟨fun h => ?_, fun ⟨⟨e1, e2⟩, e3⟩ => by rw [e1, e2, e3]⟩
    obtain ⟨_, x1, x2, x3⟩ := prefix_parse h1
    obtain ⟨_, y1, y2, y3⟩ := prefix_parse h2
    rw [h] at x1 x2 x3
    exact ⟨⟨x1.symm.trans y1, x2.symm.trans y2⟩, x3.symm.trans y3⟩
  · rw [tx_beq, beq_iff_eq, Bool.eq_iff_iff, decide_eq_true_eq, Bool.and_eq_true, beq_iff_eq, beq_iff_eq]
    refine ⟨fun h => ?_, fun ⟨e1, e2⟩ => by rw [e1, e2]⟩
    have x := parse_text (right_of h1)
    have y := parse_text (right_of h2)
    rw [h] at x
    have := x.symm.trans y
    cases this
    exact ⟨rfl, rfl⟩

theorem only_any : ∃ C : Sx.Call, COK Tryd.prog false C ∧ (∀ (w : Int) (s : ByteArray), ∃ hs, C 6 [.int .i64 w, .val (.string s)] [] hs isTrue) ∧
    (∀ (w : Int) (a b : BitVec 64) (n : Int) (c d : BitVec 64) (m : Int), ∃ hs, C 9 [.int .i64 w, .agg [.w64 a, .w64 b, .int .i64 n], .agg [.w64 c, .w64 d, .int .i64 m]] [] hs isTrue) := by
  exact ⟨run onlyCs Tryd.prog, run_ok (l := onlyCs) onlyCs_ok mixed noNG, only_walk, apart_walk⟩

end Go.Proofs.YtkdcajibehpeaaaDoor.L1
