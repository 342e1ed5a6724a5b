/-
  The calculus (SxA): contracts of calls over raw memory: that only read it; that write it; that lengthen a slice. Calls on an object that is raw memory.
-/
import Derived.Test.YtfpofdlpgocnlaaSxU
namespace Go.Sx
open Go.RowKit

/-- A call that reads raw memory: F says, of the memory and of the arguments, what comes out. -/
def memR (ps : List Par) (F : List AV → List Arg → (Res → Prop) → Prop) : Spec := fun args h K => match memRow 0 h with
  | some (_, k) => match argsAt h ps args with
    | some as => argsIn h args (F k.elems as (resK h K))
    | none => False
  | none => False

/-- A call that writes it: F says what it is then, and a plain value. -/
def memW (ps : List Par) (F : List AV → List Arg → (List AV → AV → Prop) → Prop) : Spec := fun args h K => match memRow 0 h with
  | some (r, k) => match k.wr, argsAt h ps args with
    | true, some as => argsIn h args (F k.elems as fun es x => K x (h.set r (some ⟨true, memTy, 0, true, es⟩)))
    | _, _ => False
  | none => False

/-- A call that reads it, and puts more behind a slice: which is given up, for the one that comes out. -/
def memA (ty : TypeId) (esz : Nat) (F : List AV → AV → List AV → AV → (List AV → Prop) → Prop) : Spec := fun args h K => match memRow 0 h, args with
  | some (_, k), [a, x, b] => match (canon a).pure2 && (canon b).pure2, x with
    | true, .vsl r 0 n => match h.row r with
      | some k1 => match k1.wr && k1.flat && decide (k1.ty = ty ∧ k1.esz = esz) with
        | true => n = k1.elems.length ∧ F k.elems (canon a) k1.elems (canon b) fun es => K (.vsl h.length 0 es.length) (h.set r none ++ [some ⟨true, ty, esz, true, es⟩])
        | false => False
      | none => False
    | true, .lit (.slice none 0 0) => F k.elems (canon a) [] (canon b) fun es => K (.vsl h.length 0 es.length) (h ++ [some ⟨true, ty, esz, true, es⟩])
    | _, _ => False
  | _, _ => False

/-- What code that writes is to come to: the memory, and a plain value. -/
def turnsR (R : List AV → AV → Prop) (v : AV) (h : Hp) (_ : List Hint) : Prop := match h.obj 0 with
  | some k => match k.wr && decide (k.ty = memTy) && (canon2 v).pure3 with
    | true => R k.elems (canon2 v)
    | false => False
  | none => False

section
variable {P : Program}

theorem memory_raw {B : Gd} {ρ : List Loc} {h : Hp} {w : World} (hH : HpR B ρ h w) {o : Nat → List Nat} (hO : ObjsO o B ρ h w) {r : Nat} {k : Blk} (hm : memRow 0 h = some (r, k)) :
    ∃ l, h.obj r = some k ∧ At ρ r l ∧ l.off = 0 ∧ ObjR memTy k.elems l.b (o r) w ∧ (∀ b ∈ o r, b < w.heap.size) ∧ (k.wr = true → ∀ b ∈ o r, ¬ B b) := by
  obtain ⟨ho, ht, l, hl⟩ := hH.memory hm
  obtain ⟨a, b, c, d⟩ := hO.is r k l ho hl
  exact ⟨l, ho, hl, d, ht ▸ a, b, c⟩

theorem obj_one {k : Blk} {r : Nat} {k' : Blk} (hk : Hp.obj [some k] r = some k') : r = 0 ∧ k' = k := by
  cases r with
  | zero => obtain ⟨h, _⟩ := get_obj.1 hk; simp at h; exact ⟨rfl, h.symm⟩
  | succ r => obtain ⟨h, _⟩ := get_obj.1 hk; simp at h

theorem row_one {k : Blk} (hz : k.esz = 0) {r : Nat} {k' : Blk} (hk : Hp.row [some k] r = some k') : False := by
  obtain ⟨h, h2⟩ := get_row.1 hk
  cases r with
  | zero => simp at h; subst h; exact h2 hz
  | succ r => simp at h

theorem at_one {l l' : Loc} {r : Nat} (h : At [l] r l') : l' = l := by
  obtain ⟨h, _⟩ := h
  cases r with
  | zero => simpa using h.symm
  | succ r => simp at h

theorem memR_ok {C : Call} (hC : COK P false C) {f : FuncId} {ps : List Par} {F : List AV → List Arg → (Res → Prop) → Prop}
    (hF : ∀ es as R, F es as R → ∃ r, R r ∧ r.ok ∧ ∃ hs, C f (place 1 ps as).1 (some ⟨false, memTy, 0, true, es⟩ :: (place 1 ps as).2) hs (yields r)) : SpecOK P f (memR ps F) := by
  intro args h K hK B ρ w vs hH hv
  unfold memR at hK
  split at hK
  · rename_i r k hm
    split at hK
    · rename_i as has
      obtain ⟨hFa, hin, hin2⟩ := argsIn_iff hK
      obtain ⟨o, hO⟩ := hH.objs
      obtain ⟨l, hk, hl, hoff, hob, hlt, _⟩ := memory_raw hH hO hm
      obtain ⟨res, hk2, hok, hs, hc⟩ := hF _ _ _ hFa
      obtain ⟨ρc, e1, e2, e3⟩ := place_rel hH (F := fun b => b ∉ o r) (fun r' k' l' g a => hO.row r r' k k' l l' hk g hl a) 1 hv has hin hin2
      have hHc : HpR w.heap.size ([l] ++ ρc) (Sx.freeze [some ⟨true, memTy, 0, true, k.elems⟩] ++ (place 1 ps as).2) w :=
        HpR.openedR (ρ0 := [l]) (o0 := fun _ => o r) (own := o r) rfl (fun r' k' l' g _ => (row_one rfl g).elim) (fun r' k' l' g a => by
            obtain ⟨_, rfl⟩ := obj_one g
            exact ⟨rfl, by rw [at_one a]; exact hoff⟩) (fun r' k' g => by
            obtain ⟨rfl, _⟩ := obj_one g
            exact ⟨l, rfl, hl.2⟩) (fun r' k' l' g a => by
            obtain ⟨_, rfl⟩ := obj_one g
            rw [at_one a]; exact hob)
          (fun r1 r2 b' hne h1 h2 => by
            obtain ⟨l1, _, (⟨k1, g1, _⟩ | ⟨k1, g1, _⟩)⟩ := h1
            · exact row_one rfl g1
            · obtain ⟨l2, _, (⟨k2, g2, _⟩ | ⟨k2, g2, _⟩)⟩ := h2
              · exact row_one rfl g2
              · exact hne ((obj_one g1).1.trans (obj_one g2).1.symm)) (fun r1 b' h1 => by
            obtain ⟨l1, _, (⟨k1, g1, _⟩ | ⟨k1, g1, hm⟩)⟩ := h1
            · exact (row_one rfl g1).elim
            · exact ⟨hm, hlt b' hm⟩) (hH.glob.mono hH.base) e1 e3
      have hargs : AVRs ([l] ++ ρc) (place 1 ps as).1 vs := e2 [l] rfl
      have conv : ∀ u w', (∃ ρ' y h' hs', yields res y h' hs' ∧ AVR ([l] ++ ρc ++ ρ') y u ∧ HpR w.heap.size ([l] ++ ρc ++ ρ') h' w' ∧ Bel (if false = true then bl w.heap.size else bl w.heap.size) w w' ∧ (false = true → (some ⟨false, memTy, 0, true, k.elems⟩ :: (place 1 ps as).2) <+: h')) →
          ∃ ρ' x h', K x h' ∧ AVR (ρ ++ ρ') x u ∧ HpR B (ρ ++ ρ') h' w' ∧ Bel B w w' := by
        rintro u w' ⟨ρ', y, h2, hs', hy, hr, hh, hb, _⟩
        exact conv_res hH hk2 hok hy hr hh (by simpa using hb)
      rcases hC f _ _ hs _ hc w.heap.size ([l] ++ ρc) w vs hHc hargs with ⟨hr, hcl⟩ | ⟨v', w', hr, hl'⟩
      · exact .inl ⟨hr, hcl.mono fun e w' he => by cases e with
          | returned v => exact conv v w' he
          | panicked c => exact he
          | outgrown => exact he⟩
      · exact .inr ⟨v', w', hr, conv v' w' hl'⟩
    · exact hK.elim
  · exact hK.elim

theorem memW_ok {C : Call} (hC : COK P false C) {f : FuncId} {ps : List Par} {F : List AV → List Arg → (List AV → AV → Prop) → Prop}
    (hF : ∀ es as R, F es as R → ∃ hs, C f (place 1 ps as).1 (some ⟨true, memTy, 0, true, es⟩ :: (place 1 ps as).2) hs (turnsR R)) : SpecOK P f (memW ps F) := by
  intro args h K hK B ρ w vs hH hv
  unfold memW at hK
  split at hK
  · rename_i r k hm
    split at hK
    · rename_i as hwk has
      obtain ⟨hFa, hin, hin2⟩ := argsIn_iff hK
      obtain ⟨o, hO⟩ := hH.objs
      obtain ⟨l, hk, hl, hoff, hob, hlt, hgd⟩ := memory_raw hH hO hm
      have hty : k.ty = memTy := (hH.memory hm).2.1
      obtain ⟨hs, hc⟩ := hF _ _ _ hFa
      obtain ⟨ρc, e1, e2, e3⟩ := place_rel hH (F := fun b => b ∉ o r) (fun r' k' l' g a => hO.row r r' k k' l l' hk g hl a) 1 hv has hin hin2
      have hHc : HpR (but w.heap.size (o r)) ([l] ++ ρc) ([some ⟨true, memTy, 0, true, k.elems⟩] ++ (place 1 ps as).2) w :=
        HpR.opened hlt (ρ0 := [l]) (o0 := fun _ => o r) rfl (fun r' k' l' g _ => (row_one rfl g).elim) (fun r' k' l' g a => by
            obtain ⟨_, rfl⟩ := obj_one g
            exact ⟨rfl, by rw [at_one a]; exact hoff⟩) (fun r' k' g => by
            obtain ⟨rfl, _⟩ := obj_one g
            exact ⟨l, rfl, hl.2⟩) (fun r' k' l' g a => by
            obtain ⟨_, rfl⟩ := obj_one g
            rw [at_one a]; exact hob)
          (fun r1 r2 b' hne h1 h2 => by
            obtain ⟨l1, _, (⟨k1, g1, _⟩ | ⟨k1, g1, _⟩)⟩ := h1
            · exact row_one rfl g1
            · obtain ⟨l2, _, (⟨k2, g2, _⟩ | ⟨k2, g2, _⟩)⟩ := h2
              · exact row_one rfl g2
              · exact hne ((obj_one g1).1.trans (obj_one g2).1.symm)) (fun r1 b' h1 => by
            obtain ⟨l1, _, (⟨k1, g1, _⟩ | ⟨k1, g1, hm⟩)⟩ := h1
            · exact (row_one rfl g1).elim
            · exact ⟨hm, hlt b' hm⟩) (hH.glob.mono fun b hB => ⟨hH.base b hB, fun hmm => hgd hwk b hmm hB⟩) e1 e3
      have hargs : AVRs ([l] ++ ρc) (place 1 ps as).1 vs := e2 [l] rfl
      have conv : ∀ u w', (∃ ρ' y h' hs', turnsR (fun es x => K x (h.set r (some ⟨true, memTy, 0, true, es⟩))) y h' hs' ∧ AVR ([l] ++ ρc ++ ρ') y u ∧ HpR (but w.heap.size (o r)) ([l] ++ ρc ++ ρ') h' w' ∧ Bel (if false = true then bl w.heap.size else but w.heap.size (o r)) w w' ∧ (false = true → (some ⟨true, memTy, 0, true, k.elems⟩ :: (place 1 ps as).2) <+: h')) →
          ∃ ρ' x h', K x h' ∧ AVR (ρ ++ ρ') x u ∧ HpR B (ρ ++ ρ') h' w' ∧ Bel B w w' := by
        rintro u w' ⟨ρ', y, h2, hs', ht, hr, hh, hb, _⟩
        have hb : Bel (but w.heap.size (o r)) w w' := by simpa using hb
        unfold turnsR at ht
        split at ht
        · rename_i k2 hob2
          split at ht
          · rename_i hc2
            simp only [Bool.and_eq_true, decide_eq_true_eq] at hc2
            obtain ⟨⟨hw2, ht2⟩, hp2⟩ := hc2
            obtain ⟨o2, hO2⟩ := hh.objs
            obtain ⟨q1, q2, q3, _⟩ := hO2.is 0 k2 l hob2 ⟨rfl, hl.2⟩
            obtain ⟨g1, g2⟩ := hH.mutObj hO hk hl hwk hb (es := k2.elems) (own := o2 0) (by rw [hty]; exact ht2 ▸ q1) fun b hbm => ⟨q2 b hbm, q3 hw2 b hbm⟩
            rw [hty] at g1
            exact ⟨[], canon2 y, _, ht, by simpa using pure3_any (ρ' := ρ) hp2 (canon2_rel hr), by simpa using g1, g2⟩
          · exact ht.elim
        · exact ht.elim
      rcases hC f _ _ hs _ hc (but w.heap.size (o r)) ([l] ++ ρc) w vs hHc hargs with ⟨hr, hcl⟩ | ⟨v', w', hr, hl'⟩
      · exact .inl ⟨hr, hcl.mono fun e w' he => by cases e with
          | returned v => exact conv v w' he
          | panicked c => exact he
          | outgrown => exact he⟩
      · exact .inr ⟨v', w', hr, conv v' w' hl'⟩
    · exact hK.elim
  · exact hK.elim

/-- With other guards. -/
theorem HpR.reguard {B B' : Gd} {ρ : List Loc} {h : Hp} {w : World} (hH : HpR B ρ h w) (hb : Gd.le B' (bl w.heap.size)) (hg : GlobOK B' w) (hr : ∀ r k l, h.row r = some k → At ρ r l → k.wr = true → ¬ B' l.b) (ho : ∀ r k, h.obj r = some k → k.wr = false) : HpR B' ρ h w := by
  obtain ⟨o, hO⟩ := hH.objs
  refine ⟨hH.len, hb, fun r k l hk hl => ?_, hH.sep, hg, o, fun r k l hk hl => ?_, hO.row, hO.obj, hO.here⟩
  · obtain ⟨e, cur, ty, fr, h1, h2, h3⟩ := hH.blk r k l hk hl
    exact ⟨e, cur, ty, fr, h1, h2, fun hw => let ⟨a1, a2, a3, a4, a5, _, a7⟩ := h3 hw; ⟨a1, a2, a3, a4, a5, hr r k l hk hl hw, a7⟩⟩
  · obtain ⟨a, b, _, d⟩ := hO.is r k l hk hl
    exact ⟨a, b, fun hw => (by rw [ho r k hk] at hw; cases hw), d⟩

theorem obj_two {k k1 : Blk} (hz : k1.esz ≠ 0) {r : Nat} {k' : Blk} (hk : Hp.obj [some k, some k1] r = some k') : k' = k := by
  obtain ⟨h, h2⟩ := get_obj.1 hk
  cases r with
  | zero => simpa using h.symm
  | succ r => cases r with
    | zero => simp at h; subst h; exact absurd h2 hz
    | succ r => simp at h

theorem row_two {k k1 : Blk} (hz : k.esz = 0) {r : Nat} {k' : Blk} (hk : Hp.row [some k, some k1] r = some k') : r = 1 ∧ k' = k1 := by
  obtain ⟨h, h2⟩ := get_row.1 hk
  cases r with
  | zero => simp at h; subst h; exact absurd hz h2
  | succ r => cases r with
    | zero => simp at h; exact ⟨rfl, h.symm⟩
    | succ r => simp at h

/-- What comes out of a call that lengthens a slice. -/
theorem acc_row {B B' : Gd} {ρ ρ2 : List Loc} {h : Hp} {w w' : World} (hH : HpR B ρ h w') {o : Nat → List Nat} (hO : ObjsO o B ρ h w') (hBB : Gd.le B B') (hrow : ∀ r k l, h.row r = some k → At ρ r l → B' l.b) (hobj : ∀ r k l, h.obj r = some k → At ρ r l → ∀ b ∈ o r, B' b)
    {h2 : Hp} (hh : HpR B' ρ2 h2 w') {ty : TypeId} {esz : Nat} {es : List AV} {q n : Nat} {s : Bool} {u : Value} (hr : AVR ρ2 (.slice q 0 n s) u) (hn : n = es.length) (hq : h2.row q = some ⟨true, ty, esz, true, es⟩) :
    ∃ l : Loc, AVR (ρ ++ [l]) (.vsl h.length 0 es.length) u ∧ HpR B (ρ ++ [l]) (h ++ [some ⟨true, ty, esz, true, es⟩]) w' := by
  have _ := w
  subst hn
  obtain ⟨l, ad, cc, hl, g1, gc, g2, rfl⟩ := slice_inv hr
  have hbk := hh.blk q _ l hq hl
  obtain ⟨cur, ty', fr, hrw, hri, hcap⟩ := hbk.rowIs
  obtain ⟨c0, c1, c2, c3, c4, c5, c6⟩ := hcap rfl
  refine ⟨l, .vslS (At.new hH.len hl.2) g1 gc g2, hH.push (k := ⟨true, ty, esz, true, es⟩) (l := l) (get_row.1 hq).2 ?_ (fun r k' l' hk' hl' e => c5 (e ▸ hrow r k' l' hk' hl')) hO fun r k' l' hk' hl' hm => c5 (hobj r k' l' hk' hl' _ hm)⟩
  refine .ofRow hbk.esz hrw (fun i e he => ?_) fun _ => ⟨c0, c1, c2, c3, c4, fun hB => c5 (hBB _ hB), c6⟩
  obtain ⟨q1, q2, q3⟩ := hri i e he
  exact ⟨q1, q2, fun o c hc => by simpa using q3 o c hc⟩

theorem yields_vrow {ty : TypeId} {esz : Nat} {es : List AV} {y : AV} {h2 : Hp} {hs : List Hint} (h : yields (.vrow ty esz es) y h2 hs) {ρ2 : List Loc} {u : Value} (hr : AVR ρ2 y u) :
    (u = .slice none 0 0 ∧ es = []) ∨ ∃ q n s, AVR ρ2 (.slice q 0 n s) u ∧ n = es.length ∧ h2.row q = some ⟨true, ty, esz, true, es⟩ := by
  unfold yields at h
  dsimp only at h
  split at h
  · exact .inr ⟨_, _, _, hr, h.1, h.2⟩
  · rcases vsl_inv hr with ⟨h0, rfl⟩ | hr
    · exact .inl ⟨rfl, List.eq_nil_of_length_eq_zero (h.1 ▸ h0)⟩
    · exact .inr ⟨_, _, true, hr true, h.1, h.2⟩
  · cases hr; exact .inl ⟨rfl, h⟩
  · exact h.elim

theorem memA_ok {C : Call} (hC : COK P false C) {f : FuncId} {ty : TypeId} {esz : Nat} (hz : esz ≠ 0) {F : List AV → AV → List AV → AV → (List AV → Prop) → Prop}
    (hF : ∀ es a l b R, F es a l b R → ∃ l', R l' ∧ ∃ hs, C f [a, .vsl 1 0 l.length, b] [some ⟨false, memTy, 0, true, es⟩, some ⟨true, ty, esz, true, l⟩] hs (yields (.vrow ty esz l'))) : SpecOK P f (memA ty esz F) := by
  intro args h K hK B ρ w vs hH hv
  unfold memA at hK
  split at hK
  · rename_i r k a x b hm
    obtain ⟨o, hO⟩ := hH.objs
    obtain ⟨l, hk, hl, hoff, hob, hlt, _⟩ := memory_raw hH hO hm
    have hty : k.ty = memTy := (hH.memory hm).2.1
    cases hv with
    | cons ha hv =>
    rename_i va vt
    cases hv with
    | cons hx hv =>
    rename_i vx vt2
    cases hv with
    | cons hb hv =>
    rename_i vb vt3
    cases hv
    -- the memory alone
    have hmem : HpR w.heap.size [l] [some ⟨false, memTy, 0, true, k.elems⟩] w := by
      refine ⟨rfl, .refl _, fun r' k' l' g _ => (row_one rfl g).elim, fun r1 r2 k1 k2 l1 l2 g1 => (row_one rfl g1).elim, hH.glob.mono hH.base, fun _ => o r, fun r' k' l' g a' => ?_, fun r1 r2 k1 k2 l1 l2 _ g2 => (row_one rfl g2).elim, fun r1 r2 k1 k2 l1 l2 g1 g2 hne => (hne ((obj_one g1).1.trans (obj_one g2).1.symm)).elim, fun r' k' g => ?_⟩
      · obtain ⟨_, rfl⟩ := obj_one g
        rw [at_one a']
        exact ⟨hob, hlt, fun hw => (by cases hw), hoff⟩
      · obtain ⟨rfl, _⟩ := obj_one g
        exact ⟨l, rfl, hl.2⟩
    split at hK
    · rename_i r1 n hpp
      rw [Bool.and_eq_true] at hpp
      split at hK
      · rename_i k1 hk1
        split at hK
        · rename_i hc
          simp only [Bool.and_eq_true, decide_eq_true_eq] at hc
          obtain ⟨⟨hw1, hf1⟩, ht1, hz1⟩ := hc
          obtain ⟨rfl, hK⟩ := hK
          obtain ⟨l', hk2, hs, hc⟩ := hF _ _ _ _ _ hK
          have ke : k1 = ⟨true, ty, esz, true, k1.elems⟩ := by cases k1; simp_all
          have hrr : r ≠ r1 := fun e => row_ne_obj hk1 (e ▸ hk)
          -- of a slice that is nil, a row of no place
          rcases vsl_inv hx with ⟨h0, rfl⟩ | hx
          · have he0 : k1.elems = [] := List.eq_nil_of_length_eq_zero h0
            have hHc : HpR w.heap.size [l, ⟨0, 0, 0, 0, true⟩] [some ⟨false, memTy, 0, true, k.elems⟩, some ⟨true, ty, esz, true, k1.elems⟩] w := hmem.pushPh ⟨true, ty, esz, true, k1.elems⟩ hz (l := ⟨0, 0, 0, 0, true⟩) rfl
            have hargs : AVRs [l, ⟨0, 0, 0, 0, true⟩] [canon a, .vsl 1 0 k1.elems.length, canon b] [va, .slice none 0 0, vb] := .cons (pure2_any hpp.1 (canon_rel ha)) (.cons (.vslN (by rw [he0]; rfl)) (.cons (pure2_any hpp.2 (canon_rel hb)) .nil))
            have conv : ∀ u w', (∃ ρ' y h' hs', yields (.vrow ty esz l') y h' hs' ∧ AVR ([l, ⟨0, 0, 0, 0, true⟩] ++ ρ') y u ∧ HpR w.heap.size ([l, ⟨0, 0, 0, 0, true⟩] ++ ρ') h' w' ∧ Bel (if false = true then bl w.heap.size else bl w.heap.size) w w' ∧ (false = true → [some ⟨false, memTy, 0, true, k.elems⟩, some ⟨true, ty, esz, true, k1.elems⟩] <+: h')) →
                ∃ ρ' x h', K x h' ∧ AVR (ρ ++ ρ') x u ∧ HpR B (ρ ++ ρ') h' w' ∧ Bel B w w' := by
              rintro u w' ⟨ρ', y, h2, hs', hy, hr, hh, hb', _⟩
              have hb' : Bel (bl w.heap.size) w w' := by simpa using hb'
              have hold := (hH.below hb').kill r1
              have hBel := hb'.mono hH.base
              rcases yields_vrow hy hr with ⟨rfl, rfl⟩ | ⟨q, n, s, h1, h2', h3⟩
              · exact ⟨[⟨0, 0, 0, 0, true⟩], _, _, hk2, .vslN rfl, hold.pushPh _ hz rfl, hBel⟩
              · obtain ⟨o', hO'⟩ := hold.objs
                obtain ⟨l2, q1, q2⟩ := acc_row (w := w) hold ((hO.change hb'.size fun _ _ _ hk hl b hbm => hb'.block _ (hO.lt hk hl b hbm)).same (fun r k hk => noObj hk) fun r k hk => ⟨k, (noRow hk).2⟩) hH.base (fun r2 k2 l2 g2 a2 => (hH.blk r2 k2 l2 (noRow g2).2 a2).lt) (fun r2 k2 l2 g2 a2 b hbm => hO.lt (noObj g2) a2 b hbm) hh h1 h2' h3
                rw [List.length_set] at q1
                exact ⟨[l2], _, _, hk2, q1, q2, hBel⟩
            rcases hC f _ _ hs _ hc w.heap.size _ w _ hHc hargs with ⟨hr, hcl⟩ | ⟨v', w', hr, hl'⟩
            · exact .inl ⟨hr, hcl.mono fun e w' he => by cases e with
                | returned v => exact conv v w' he
                | panicked c => exact he
                | outgrown => exact he⟩
            · exact .inr ⟨v', w', hr, conv v' w' hl'⟩
          · obtain ⟨l1, ad, cc, hl1, s1, s2, s3, rfl⟩ := slice_inv (hx true)
            have hb1 := hH.blk r1 k1 l1 hk1 hl1
            obtain ⟨cur, ty1, fr1, t1, t2, t3⟩ := hb1.rowIs
            obtain ⟨u0, u1, u2, u3, u4, u5, u6⟩ := t3 hw1
            have hnot : l1.b ∉ o r := hO.row r r1 k k1 l l1 hk hk1 hl hl1
            have hG : GlobOK (but w.heap.size [l1.b]) w := hH.glob.mono fun b hB => ⟨hH.base b hB, fun hm => u5 (by have := List.mem_singleton.1 hm; exact this ▸ hB)⟩
            have hHc : HpR (but w.heap.size [l1.b]) [l, l1] [some ⟨false, memTy, 0, true, k.elems⟩, some ⟨true, ty, esz, true, k1.elems⟩] w := by
              obtain ⟨om, hOm⟩ := hmem.objs
              have h1 := hmem.reguard (B' := but w.heap.size [l1.b]) (fun b hb => hb.1) hG (fun r' k' l' g _ => (row_one rfl g).elim) (fun r' k' g => by obtain ⟨_, rfl⟩ := obj_one g; rfl)
              refine h1.push (k := ⟨true, ty, esz, true, k1.elems⟩) (l := l1) hz (.ofRow (by rw [← hz1]; exact hb1.esz) t1 ?_ fun _ => ⟨by rw [← ht1]; exact u0, u1, u2, by rw [← hz1]; exact u3, u4, fun hB => hB.2 (by simp), u6⟩) (fun r' k' l' g _ => (row_one rfl g).elim) (o := fun _ => o r) ?_ fun r' k' l' g a' => hnot
              · rw [hf1, hz1] at t2
                intro i e he
                obtain ⟨q1, q2, q3⟩ := t2 i e he
                exact ⟨q1, q2, fun o c hc => by simpa using q3 o c hc⟩
              · refine ⟨fun r' k' l' g a' => ?_, fun r1 r2 k1 k2 l1 l2 _ g2 => (row_one rfl g2).elim, fun r1 r2 k1 k2 l1 l2 g1 g2 hne => (hne ((obj_one g1).1.trans (obj_one g2).1.symm)).elim, fun r' k' g => ?_⟩
                · obtain ⟨_, rfl⟩ := obj_one g
                  rw [at_one a']
                  exact ⟨hob, hlt, fun hw => (by cases hw), hoff⟩
                · obtain ⟨rfl, _⟩ := obj_one g
                  exact ⟨l, rfl, hl.2⟩
            have hargs : AVRs [l, l1] [canon a, .vsl 1 0 k1.elems.length, canon b] [va, .slice (some ad) k1.elems.length cc, vb] := .cons (pure2_any hpp.1 (canon_rel ha)) (.cons (.vslS ⟨rfl, hl1.2⟩ s1 s2 s3) (.cons (pure2_any hpp.2 (canon_rel hb)) .nil))
            have conv : ∀ u w', (∃ ρ' y h' hs', yields (.vrow ty esz l') y h' hs' ∧ AVR ([l, l1] ++ ρ') y u ∧ HpR (but w.heap.size [l1.b]) ([l, l1] ++ ρ') h' w' ∧ Bel (if false = true then bl w.heap.size else but w.heap.size [l1.b]) w w' ∧ (false = true → [some ⟨false, memTy, 0, true, k.elems⟩, some ⟨true, ty, esz, true, k1.elems⟩] <+: h')) →
                ∃ ρ' x h', K x h' ∧ AVR (ρ ++ ρ') x u ∧ HpR B (ρ ++ ρ') h' w' ∧ Bel B w w' := by
              rintro u w' ⟨ρ', y, h2, hs', hy, hr, hh, hb', _⟩
              have hb' : Bel (but w.heap.size [l1.b]) w w' := by simpa using hb'
              have hBB : Gd.le B (but w.heap.size [l1.b]) := fun b hB => ⟨hH.base b hB, fun hm => u5 (by have := List.mem_singleton.1 hm; exact this ▸ hB)⟩
              have hBel := hb'.mono hBB
              have far : ∀ r2 k2 l2, Hp.row (h.set r1 none) r2 = some k2 → At ρ r2 l2 → but w.heap.size [l1.b] l2.b := fun r2 k2 l2 g2 a2 => by
                obtain ⟨g1, g2⟩ := noRow g2
                exact ⟨(hH.blk r2 k2 l2 g2 a2).lt, fun hm => hH.sep r1 r2 k1 k2 l1 l2 hk1 g2 hw1 (Ne.symm g1) hl1 a2 (List.mem_singleton.1 hm).symm⟩
              have faro : ∀ r2 k2 l2, Hp.obj (h.set r1 none) r2 = some k2 → At ρ r2 l2 → ∀ b ∈ o r2, but w.heap.size [l1.b] b := fun r2 k2 l2 g2 a2 b hbm =>
                ⟨hO.lt (noObj g2) a2 b hbm, fun hm => hO.row r2 r1 k2 k1 l2 l1 (noObj g2) hk1 a2 hl1 ((List.mem_singleton.1 hm) ▸ hbm)⟩
              have hk0 := hH.kill r1
              have hO2 : ObjsO o B ρ (h.set r1 none) w' := (hO.same (fun r k hk => noObj hk) fun r k hk => ⟨k, (noRow hk).2⟩).change hb'.size fun r2 k2 l2 g2 a2 b hbm => hb'.block b (faro r2 k2 l2 g2 a2 b hbm)
              have hold : HpR B ρ (h.set r1 none) w' := ⟨hk0.len, hk0.base.trans (bl_mono hb'.size), fun r2 k2 l2 g2 a2 => (hk0.blk r2 k2 l2 g2 a2).same (hb'.block _ (far r2 k2 l2 g2 a2)), hk0.sep, hH.glob.below hBel, o, hO2⟩
              rcases yields_vrow hy hr with ⟨rfl, rfl⟩ | ⟨q, n, s, h1, h2', h3⟩
              · exact ⟨[⟨0, 0, 0, 0, true⟩], _, _, hk2, .vslN rfl, hold.pushPh _ hz rfl, hBel⟩
              · obtain ⟨l2, q1, q2⟩ := acc_row (w := w) hold hO2 hBB far faro hh h1 h2' h3
                rw [List.length_set] at q1
                exact ⟨[l2], _, _, hk2, q1, q2, hBel⟩
            rcases hC f _ _ hs _ hc (but w.heap.size [l1.b]) _ w _ hHc hargs with ⟨hr, hcl⟩ | ⟨v', w', hr, hl'⟩
            · exact .inl ⟨hr, hcl.mono fun e w' he => by cases e with
                | returned v => exact conv v w' he
                | panicked c => exact he
                | outgrown => exact he⟩
            · exact .inr ⟨v', w', hr, conv v' w' hl'⟩
        · exact hK.elim
      · exact hK.elim
    · rename_i hpp
      rw [Bool.and_eq_true] at hpp
      cases hx
      obtain ⟨l', hk2, hs, hc⟩ := hF _ _ _ _ _ hK
      have hHc : HpR w.heap.size [l, ⟨0, 0, 0, 0, true⟩] [some ⟨false, memTy, 0, true, k.elems⟩, some ⟨true, ty, esz, true, []⟩] w := hmem.pushPh ⟨true, ty, esz, true, []⟩ hz (l := ⟨0, 0, 0, 0, true⟩) rfl
      have hargs : AVRs [l, ⟨0, 0, 0, 0, true⟩] [canon a, .vsl 1 0 ([] : List AV).length, canon b] [va, .slice none 0 0, vb] := .cons (pure2_any hpp.1 (canon_rel ha)) (.cons (.vslN rfl) (.cons (pure2_any hpp.2 (canon_rel hb)) .nil))
      have conv : ∀ u w', (∃ ρ' y h' hs', yields (.vrow ty esz l') y h' hs' ∧ AVR ([l, ⟨0, 0, 0, 0, true⟩] ++ ρ') y u ∧ HpR w.heap.size ([l, ⟨0, 0, 0, 0, true⟩] ++ ρ') h' w' ∧ Bel (if false = true then bl w.heap.size else bl w.heap.size) w w' ∧ (false = true → [some ⟨false, memTy, 0, true, k.elems⟩, some ⟨true, ty, esz, true, []⟩] <+: h')) →
          ∃ ρ' x h', K x h' ∧ AVR (ρ ++ ρ') x u ∧ HpR B (ρ ++ ρ') h' w' ∧ Bel B w w' := by
        rintro u w' ⟨ρ', y, h2, hs', hy, hr, hh, hb', _⟩
        exact conv_res hH (r := .vrow ty esz l') hk2 (by cases esz with | zero => exact absurd rfl hz | succ n => trivial) hy hr hh (by simpa using hb')
      rcases hC f _ _ hs _ hc w.heap.size _ w _ hHc hargs with ⟨hr, hcl⟩ | ⟨v', w', hr, hl'⟩
      · exact .inl ⟨hr, hcl.mono fun e w' he => by cases e with
          | returned v => exact conv v w' he
          | panicked c => exact he
          | outgrown => exact he⟩
      · exact .inr ⟨v', w', hr, conv v' w' hl'⟩
    · exact hK.elim
  · exact hK.elim

theorem canon1_pure1 (x : AV) : (canon1 x).pure1 = x.pure1 := by
  unfold canon1
  split
  · split <;> rfl
  all_goals rfl

theorem canon_pure2 (x : AV) : (canon x).pure2 = x.pure2 := by
  cases x with
  | agg cs =>
    simp only [canon, AV.pure2, List.all_map]
    congr 1
    funext c
    exact canon1_pure1 c
  | _ => simp only [canon, canon1] <;> (try split) <;> (try split) <;> rfl

/-- Arguments that are plain are so in any heap. -/
theorem argsAt_plain {h h' : Hp} : ∀ {n : Nat} {xs : List AV} {as : List Arg}, argsAt h (List.replicate n none) xs = some as → argsAt h' (List.replicate n none) xs = some as ∧ xs.all AV.pure2 = true
  | 0, [], as, e => ⟨e, rfl⟩
  | 0, _ :: _, as, e => by simp [argsAt] at e
  | n + 1, [], as, e => by simp [List.replicate_succ, argsAt] at e
  | n + 1, x :: xs, as, e => by
    rw [List.replicate_succ] at e ⊢
    unfold argsAt at e ⊢
    split at e
    · rename_i a l h1 h2
      obtain ⟨g1, g2⟩ := argsAt_plain (h' := h') h2
      have ha : argAt h' none x = some a := h1
      rw [ha, g1]
      refine ⟨e, ?_⟩
      unfold argAt at h1
      dsimp only at h1
      split at h1
      · rename_i hp
        rw [List.all_cons, Bool.and_eq_true]
        exact ⟨by rw [← canon_pure2]; exact hp, g2⟩
      · cases h1
    · cases e

theorem argsIn_plain {h : Hp} {K : Prop} (hK : K) : ∀ {xs : List AV}, xs.all AV.pure2 = true → argsIn h xs K
  | [], _ => hK
  | x :: xs, hp => by
    rw [List.all_cons, Bool.and_eq_true] at hp
    unfold argsIn
    split
    · exact hK
    · rename_i e; cases e; cases hp.1
    · rename_i e; cases e; cases hp.1
    · rename_i e; cases e; exact argsIn_plain hK hp.2

/-- Which raw memory, of a block of that name, stands for a state of a type. -/
def OpensR (ty : TypeId) (X : List AV → Nat → List AV → Prop) : Prop := ∀ {es : List AV} {b : Nat} {own : List Nat} {w : World}, ObjR ty es b own w → ∃ m : List MB, X es b (memE m) ∧ RawR m b own w

/-- A result that names no other's row. -/
def Res.flat : Res → Prop
  | .v x => x.pure3 = true
  | .vrow _ 0 _ => False
  | .vrow _ _ _ => True
  | _ => False

theorem ptr_raw {ρ : List Loc} {r : Nat} {st : Bool} {l : Loc} {v : Value} (hl : At ρ r l) (hoff : l.off = 0) (hv : AVR ρ (.ptr r 0 0 st) v) : v = .pointer (some ⟨l.b, 0, none⟩) := by
  obtain ⟨l', hl', rfl⟩ := ptr_inv hv
  rw [hl.inj hl'] at hoff ⊢
  simp [hoff]

/-- The memory alone. -/
theorem HpR.memOnly {B : Gd} {ρ : List Loc} {h : Hp} {w : World} (hH : HpR B ρ h w) {wr : Bool} {m : List MB} {l : Loc} (hph : l.ph = false) (hoff : l.off = 0) {own : List Nat} (hR : RawR m l.b own w) (hlt : ∀ b ∈ own, b < w.heap.size) {B' : Gd} (hB : Gd.le B' (bl w.heap.size)) (hG : GlobOK B' w) (hw : wr = true → ∀ b ∈ own, ¬ B' b) :
    HpR B' [l] [some ⟨wr, memTy, 0, true, memE m⟩] w := by
  have _ := hH
  refine ⟨rfl, hB, fun r' k' l' g _ => (row_one rfl g).elim, fun r1 r2 k1 k2 l1 l2 g1 => (row_one rfl g1).elim, hG, fun _ => own, fun r' k' l' g a' => ?_, fun r1 r2 k1 k2 l1 l2 _ g2 => (row_one rfl g2).elim, fun r1 r2 k1 k2 l1 l2 g1 g2 hne => (hne ((obj_one g1).1.trans (obj_one g2).1.symm)).elim, fun r' k' g => ?_⟩
  · obtain ⟨_, rfl⟩ := obj_one g
    rw [at_one a']
    exact ⟨.raw m (.inl ⟨rfl, rfl⟩) hR, hlt, hw, hoff⟩
  · obtain ⟨rfl, _⟩ := obj_one g
    exact ⟨l, rfl, hph⟩

theorem readOut {f : FuncId} {ty : TypeId} {n : Nat} {Fi : List AV → List Arg → (Res → Prop) → Prop} {Fo : List AV → List Arg → (Res → Prop) → Prop} {X : List AV → Nat → List AV → Prop} (hX : OpensR ty X) (hin : SpecOK P f (memR (none :: List.replicate n none) Fi))
    (hF : ∀ es b m as (R R' : Res → Prop), X es b m → (∀ r, r.flat → R r → R' r) → Fo es as R → Fi m (.v (.val (.pointer (some ⟨b, 0, none⟩))) :: as) R') : SpecOK P f (readSpec ty (List.replicate n none) Fo) := by
  intro args h K hK B ρ w vs hH hv
  unfold readSpec at hK
  split at hK
  · rename_i r st xs
    split at hK
    · rename_i k hk
      split at hK
      · rename_i as hty has
        have hty := of_decide_eq_true hty
        obtain ⟨hFa, _, _⟩ := argsIn_iff hK
        cases hv with
        | cons hp hv =>
          rename_i v vt
          obtain ⟨l, hl, _⟩ := ptr_inv hp
          obtain ⟨o, hO⟩ := hH.objs
          obtain ⟨hob, hlt, _, hoff⟩ := hO.is r k l hk hl
          rw [hty] at hob
          obtain ⟨m, hx, hR⟩ := hX hob
          obtain rfl := ptr_raw hl hoff hp
          have hHc := hH.memOnly (wr := false) hl.2 hoff hR hlt (B' := bl w.heap.size) (.refl _) (hH.glob.mono hH.base) (fun h => by cases h)
          obtain ⟨ha1, ha2⟩ := argsAt_plain (h' := [some ⟨false, memTy, 0, true, memE m⟩]) has
          have hargs : AVRs [l] (.val (.pointer (some ⟨l.b, 0, none⟩)) :: xs) (.pointer (some ⟨l.b, 0, none⟩) :: vt) := .cons (.val _) (pures_any pure2_any ha2 hv)
          let K' : AV → Hp → Prop := fun y g => (g = [some ⟨false, memTy, 0, true, memE m⟩] ∧ y.pure3 = true ∧ K y h) ∨
            ∃ ty esz es, esz ≠ 0 ∧ g = [some ⟨false, memTy, 0, true, memE m⟩] ++ [some ⟨true, ty, esz, true, es⟩] ∧ y = .vsl 1 0 es.length ∧ K (.vsl h.length 0 es.length) (h ++ [some ⟨true, ty, esz, true, es⟩])
          have hFi := hF k.elems l.b (memE m) as (resK h K) (resK [some ⟨false, memTy, 0, true, memE m⟩] K') hx (fun r hr hk => by
            cases r with
            | v x => exact .inl ⟨rfl, hr, hk⟩
            | vrow ty esz es => cases esz with
              | zero => exact hr.elim
              | succ e => exact .inr ⟨ty, e + 1, es, Nat.succ_ne_zero _, rfl, rfl, hk⟩
            | _ => exact hr.elim) hFa
          have hsp : memR (none :: List.replicate n none) Fi (.val (.pointer (some ⟨l.b, 0, none⟩)) :: xs) [some ⟨false, memTy, 0, true, memE m⟩] K' := by
            have hm : memRow 0 [some (⟨false, memTy, 0, true, memE m⟩ : Blk)] = some (0, ⟨false, memTy, 0, true, memE m⟩) := by simp [memRow]
            have haa : argsAt [some (⟨false, memTy, 0, true, memE m⟩ : Blk)] (none :: List.replicate n none) (.val (.pointer (some ⟨l.b, 0, none⟩)) :: xs) = some (.v (.val (.pointer (some ⟨l.b, 0, none⟩))) :: as) := by
              unfold argsAt
              rw [ha1]
              rfl
            unfold memR
            rw [hm]
            dsimp only
            rw [haa]
            exact argsIn_plain hFi (by rw [List.all_cons, ha2]; rfl)
          have conv : ∀ u w', (∃ ρ' x h', K' x h' ∧ AVR ([l] ++ ρ') x u ∧ HpR (bl w.heap.size) ([l] ++ ρ') h' w' ∧ Bel (bl w.heap.size) w w') → ∃ ρ' x h', K x h' ∧ AVR (ρ ++ ρ') x u ∧ HpR B (ρ ++ ρ') h' w' ∧ Bel B w w' := by
            rintro u w' ⟨ρ', y, g, (⟨rfl, hp, hk⟩ | ⟨ty, esz, es, hz, rfl, rfl, hk⟩), hr, hh, hb⟩
            · exact ⟨[], y, h, hk, pure3_any hp hr, by simpa using hH.below hb, hb.mono hH.base⟩
            · rcases vsl_inv hr with ⟨h0, rfl⟩ | hr
              · exact ⟨[⟨0, 0, 0, 0, true⟩], _, _, hk, .vslN h0, (hH.below hb).pushPh _ hz rfl, hb.mono hH.base⟩
              · obtain ⟨l2, q1, q2⟩ := acc_row (w := w) (hH.below hb) (hO.change hb.size fun _ _ _ hk hl b hbm => hb.block _ (hO.lt hk hl b hbm)) hH.base (fun r2 k2 l2 g2 a2 => (hH.blk r2 k2 l2 g2 a2).lt) (fun r2 k2 l2 g2 a2 b hbm => hO.lt g2 a2 b hbm) hh (hr true) rfl
                  (show Hp.row ([some ⟨false, memTy, 0, true, memE m⟩] ++ [some ⟨true, ty, esz, true, es⟩]) 1 = _ from get_row.2 ⟨rfl, hz⟩)
                exact ⟨[l2], _, _, hk, q1, q2, hb.mono hH.base⟩
          rcases hin _ _ _ hsp _ _ _ _ hHc hargs with ⟨hr, hcl⟩ | ⟨v', w', hr, hl'⟩
          · exact .inl ⟨hr, hcl.mono fun e w' he => by cases e with
              | returned v => exact conv v w' he
              | panicked c => exact he
              | outgrown => exact he⟩
          · exact .inr ⟨v', w', hr, conv v' w' hl'⟩
      · exact hK.elim
    · exact hK.elim
  · exact hK.elim

theorem mutOut {f : FuncId} {ty : TypeId} {n : Nat} {Fi : List AV → List Arg → (List AV → AV → Prop) → Prop} {Fo : List AV → List Arg → (List AV → AV → Prop) → Prop} {X : List AV → Nat → List AV → Prop} (hX : OpensR ty X) (hin : SpecOK P f (memW (none :: List.replicate n none) Fi))
    (hF : ∀ es b m as (R : List AV → AV → Prop), X es b m → Fo es as R → Fi m (.v (.val (.pointer (some ⟨b, 0, none⟩))) :: as) fun m' x => x.pure3 = true ∧ ∃ es', rawI ty es' m' ∧ R es' x) : SpecOK P f (mutSpec ty (List.replicate n none) Fo) := by
  intro args h K hK B ρ w vs hH hv
  unfold mutSpec at hK
  split at hK
  · rename_i r st xs
    split at hK
    · rename_i k hk
      split at hK
      · rename_i as hty hwk has
        have hty := of_decide_eq_true hty
        obtain ⟨hFa, _, _⟩ := argsIn_iff hK
        cases hv with
        | cons hp hv =>
          rename_i v vt
          obtain ⟨l, hl, _⟩ := ptr_inv hp
          obtain ⟨o, hO⟩ := hH.objs
          obtain ⟨hob, hlt, hgd, hoff⟩ := hO.is r k l hk hl
          rw [hty] at hob
          obtain ⟨m, hx, hR⟩ := hX hob
          obtain rfl := ptr_raw hl hoff hp
          have hHc := hH.memOnly (wr := true) hl.2 hoff hR hlt (B' := but w.heap.size (o r)) (fun b hb => hb.1) (hH.glob.mono fun b hB => ⟨hH.base b hB, fun hmm => hgd hwk b hmm hB⟩) (fun _ b hb hB => hB.2 hb)
          obtain ⟨ha1, ha2⟩ := argsAt_plain (h' := [some ⟨true, memTy, 0, true, memE m⟩]) has
          have hargs : AVRs [l] (.val (.pointer (some ⟨l.b, 0, none⟩)) :: xs) (.pointer (some ⟨l.b, 0, none⟩) :: vt) := .cons (.val _) (pures_any pure2_any ha2 hv)
          have hFi := hF k.elems l.b (memE m) as _ hx hFa
          have hsp2 : memW (none :: List.replicate n none) Fi (.val (.pointer (some ⟨l.b, 0, none⟩)) :: xs) [some ⟨true, memTy, 0, true, memE m⟩] fun y g => ∃ m', g = [some ⟨true, memTy, 0, true, m'⟩] ∧ y.pure3 = true ∧ ∃ es', rawI ty es' m' ∧ K y (h.set r (some ⟨true, ty, 0, true, es'⟩)) := by
            have hm : memRow 0 [some (⟨true, memTy, 0, true, memE m⟩ : Blk)] = some (0, ⟨true, memTy, 0, true, memE m⟩) := by simp [memRow]
            have haa : argsAt [some (⟨true, memTy, 0, true, memE m⟩ : Blk)] (none :: List.replicate n none) (.val (.pointer (some ⟨l.b, 0, none⟩)) :: xs) = some (.v (.val (.pointer (some ⟨l.b, 0, none⟩))) :: as) := by
              unfold argsAt
              rw [ha1]
              rfl
            unfold memW
            rw [hm]
            dsimp only
            rw [haa]
            refine argsIn_plain ?_ (by rw [List.all_cons, ha2]; rfl)
            have e : (fun (m' : List AV) (x : AV) => x.pure3 = true ∧ ∃ es', rawI ty es' m' ∧ K x (h.set r (some ⟨true, ty, 0, true, es'⟩))) = fun m' x => ∃ m'_1, ([some (⟨true, memTy, 0, true, memE m⟩ : Blk)] : Hp).set 0 (some ⟨true, memTy, 0, true, m'⟩) = [some ⟨true, memTy, 0, true, m'_1⟩] ∧ x.pure3 = true ∧ ∃ es', rawI ty es' m'_1 ∧ K x (h.set r (some ⟨true, ty, 0, true, es'⟩)) := by
              funext m' x
              refine propext ⟨fun hx => ⟨m', rfl, hx⟩, fun ⟨m2, e, hx⟩ => ?_⟩
              have : m' = m2 := by simpa using e
              subst this
              exact hx
            have hFi : Fi (memE m) (.v (.val (.pointer (some ⟨l.b, 0, none⟩))) :: as) fun (m' : List AV) (x : AV) => x.pure3 = true ∧ ∃ es', rawI ty es' m' ∧ K x (h.set r (some ⟨true, ty, 0, true, es'⟩)) := hFi
            rw [e] at hFi
            exact hFi
          have conv : ∀ u w', (∃ ρ' x h', (∃ m', h' = [some (⟨true, memTy, 0, true, m'⟩ : Blk)] ∧ x.pure3 = true ∧ ∃ es', rawI ty es' m' ∧ K x (h.set r (some ⟨true, ty, 0, true, es'⟩))) ∧ AVR ([l] ++ ρ') x u ∧ HpR (but w.heap.size (o r)) ([l] ++ ρ') h' w' ∧ Bel (but w.heap.size (o r)) w w') → ∃ ρ' x h', K x h' ∧ AVR (ρ ++ ρ') x u ∧ HpR B (ρ ++ ρ') h' w' ∧ Bel B w w' := by
            rintro u w' ⟨ρ', y, g, ⟨m', rfl, hp, es', hraw, hk2⟩, hr, hh, hb⟩
            obtain ⟨o2, hO2⟩ := hh.objs
            obtain ⟨q1, q2, q3, _⟩ := hO2.is 0 ⟨true, memTy, 0, true, m'⟩ l rfl ⟨rfl, hl.2⟩
            obtain ⟨m2, e2, hR2⟩ := q1.rawMem (fun _ _ => rawI_mem) fun _ _ => reprO_mem
            have e2 : m' = memE m2 := e2
            subst e2
            obtain ⟨g1, g2⟩ := hH.mutObj hO hk hl hwk hb (es := es') (own := o2 0) (by rw [hty]; exact .raw m2 (.inr hraw) hR2) fun b hbm => ⟨q2 b hbm, q3 rfl b hbm⟩
            rw [hty] at g1
            exact ⟨[], y, _, hk2, pure3_any hp hr, by simpa using g1, g2⟩
          rcases hin _ _ _ hsp2 _ _ _ _ hHc hargs with ⟨hr, hcl⟩ | ⟨v', w', hr, hl'⟩
          · exact .inl ⟨hr, hcl.mono fun e w' he => by cases e with
              | returned v => exact conv v w' he
              | panicked c => exact he
              | outgrown => exact he⟩
          · exact .inr ⟨v', w', hr, conv v' w' hl'⟩
      · exact hK.elim
    · exact hK.elim
  · exact hK.elim

end
end Go.Sx
