/-
  The calculus (SxA): contracts of calls on an object: that only ask it; that change its state.
-/
import Derived.Test.YteagcgocmdjobaaSxM
namespace Go.Sx
open Go.RowKit

/-- What such a call says: F of the object's state, and of the other arguments. -/
def readSpec (ty : TypeId) (ps : List Par) (F : List AV → List Arg → (Res → Prop) → Prop) : Spec := fun args h K => match args with
  | .ptr r 0 0 _ :: xs => match h.obj r with
    | some k => match decide (k.ty = ty), argsAt h ps xs with
      | true, some as => argsIn h xs (F k.elems as (resK h K))
      | _, _ => False
    | none => False
  | _ => False

/-- Likewise; it says the new state, and a plain value. -/
def mutSpec (ty : TypeId) (ps : List Par) (F : List AV → List Arg → (List AV → AV → Prop) → Prop) : Spec := fun args h K => match args with
  | .ptr r 0 0 _ :: xs => match h.obj r with
    | some k => match decide (k.ty = ty), k.wr, argsAt h ps xs with
      | true, true, some as => argsIn h xs (F k.elems as fun es x => K x (h.set r (some ⟨true, ty, 0, true, es⟩)))
      | _, _, _ => False
    | none => False
  | _ => False

/-- What the code is to come to: a value, and row 0 stands for the new state. -/
def turns (ty : TypeId) (es : List AV) (x : AV) (v : AV) (h : Hp) (_ : List Hint) : Prop := canon2 v = x ∧ closeAt h 0 (reprO ty es)

section
variable {P : Program}

theorem row_app {h0 hp : Hp} {r : Nat} {k : Blk} (hk : (h0 ++ hp : Hp).row r = some k) : (r < h0.length ∧ h0.row r = some k) ∨ (h0.length ≤ r ∧ hp.row (r - h0.length) = some k) := by
  obtain ⟨h1, h2⟩ := get_row.1 hk
  by_cases hr : r < h0.length
  · rw [List.getElem?_append_left hr] at h1; exact .inl ⟨hr, get_row.2 ⟨h1, h2⟩⟩
  · rw [List.getElem?_append_right (by omega)] at h1; exact .inr ⟨by omega, get_row.2 ⟨h1, h2⟩⟩

theorem obj_app {h0 hp : Hp} {r : Nat} {k : Blk} (hk : (h0 ++ hp : Hp).obj r = some k) : (r < h0.length ∧ h0.obj r = some k) ∨ (h0.length ≤ r ∧ hp.obj (r - h0.length) = some k) := by
  obtain ⟨h1, h2⟩ := get_obj.1 hk
  by_cases hr : r < h0.length
  · rw [List.getElem?_append_left hr] at h1; exact .inl ⟨hr, get_obj.2 ⟨h1, h2⟩⟩
  · rw [List.getElem?_append_right (by omega)] at h1; exact .inr ⟨by omega, get_obj.2 ⟨h1, h2⟩⟩

theorem at_app {ρ0 ρc : List Loc} {r : Nat} {l : Loc} (h : At (ρ0 ++ ρc) r l) : (r < ρ0.length → At ρ0 r l) ∧ (ρ0.length ≤ r → At ρc (r - ρ0.length) l) := by
  obtain ⟨h, hp⟩ := h
  exact ⟨fun hr => ⟨by rw [List.getElem?_append_left hr] at h; exact h, hp⟩, fun hr => ⟨by rw [List.getElem?_append_right hr] at h; exact h, hp⟩⟩

/-- An object, opened, and rows that are only read; 'own': its blocks; they alone may be written. -/
theorem HpR.opened {w : World} {own : List Nat} (hown : ∀ b ∈ own, b < w.heap.size) {h0 : Hp} {ρ0 : List Loc} {o0 : Nat → List Nat} (hl0 : ρ0.length = h0.length)
    (hrow : ∀ r k l, h0.row r = some k → At ρ0 r l → k.wr = true ∧ BlkR ρ0 (fun _ => False) w l k) (hwr : ∀ r k l, h0.obj r = some k → At ρ0 r l → k.wr = true ∧ l.off = 0) (hat : ∀ r k, h0.obj r = some k → ∃ l, At ρ0 r l) (hobj : ∀ r k l, h0.obj r = some k → At ρ0 r l → ObjR k.ty k.elems l.b (o0 r) w)
    (hsep : ∀ r r' b', r ≠ r' → Owns o0 h0 ρ0 r b' → ¬ Owns o0 h0 ρ0 r' b') (hin : ∀ r b', Owns o0 h0 ρ0 r b' → b' ∈ own ∧ b' < w.heap.size) (hG : GlobOK (but w.heap.size own) w)
    {ρc : List Loc} {hp : Hp} (hlc : ρc.length = hp.length) (hR : Reads (fun b => b ∉ own) ρc hp w) : HpR (but w.heap.size own) (ρ0 ++ ρc) (h0 ++ hp) w := by
  have _ := hown
  have ownr : ∀ {r k l}, h0.row r = some k → At ρ0 r l → l.b ∈ own := fun hk ha => (hin _ _ ⟨_, ha, .inl ⟨_, hk, rfl⟩⟩).1
  have owno : ∀ {r k l}, h0.obj r = some k → At ρ0 r l → ∀ b ∈ o0 r, b ∈ own ∧ b < w.heap.size := fun hk ha b hb => hin _ _ ⟨_, ha, .inr ⟨_, hk, hb⟩⟩
  have lo : ∀ {r l}, r < h0.length → At (ρ0 ++ ρc) r l → At ρ0 r l := fun hr ha => (at_app ha).1 (by rw [hl0]; exact hr)
  have hi : ∀ {r l}, h0.length ≤ r → At (ρ0 ++ ρc) r l → At ρc (r - h0.length) l := fun hr ha => by rw [← hl0]; exact (at_app ha).2 (by rw [hl0]; exact hr)
  refine ⟨by rw [List.length_append, List.length_append, hl0, hlc], fun b hb => hb.1, fun r k l hk ha => ?_, fun r r' k k' l l' hk hk' hw hne ha ha' => ?_, hG, o0, fun r k l hk ha => ?_, fun r r' k k' l l' hk hk' ha ha' hm => ?_, fun r r' k k' l l' hk hk' hne ha ha' b hm hm' => ?_, fun r k hk => ?_⟩
  rotate_left 5
  · rcases obj_app hk with ⟨_, g⟩ | ⟨_, g⟩
    · exact let ⟨l, hl⟩ := hat r k g; ⟨l, getElem?_app ρc hl⟩
    · exact (hR.2.2 _ k g).elim
  · rcases row_app hk with ⟨hr, g⟩ | ⟨hr, g⟩
    · exact ((hrow r k l g (lo hr ha)).2.app _).gd fun _ hB => hB.2 (ownr g (lo hr ha))
    · obtain ⟨q1, q2⟩ := hR.2.1 _ k l g (hi hr ha)
      exact (q2 _).gd fun hw => by rw [q1] at hw; cases hw
  · rcases row_app hk with ⟨hr, g⟩ | ⟨hr, g⟩ <;> rcases row_app hk' with ⟨hr', g'⟩ | ⟨hr', g'⟩
    · intro e
      exact hsep r r' l.b hne ⟨l, lo hr ha, .inl ⟨k, g, rfl⟩⟩ ⟨l', lo hr' ha', .inl ⟨k', g', e⟩⟩
    · intro e
      have h1 := ownr g (lo hr ha)
      rw [e] at h1
      exact hR.1 _ k' l' g' (hi hr' ha') h1
    · have := (hR.2.1 _ k l g (hi hr ha)).1
      rw [this] at hw; cases hw
    · have := (hR.2.1 _ k l g (hi hr ha)).1
      rw [this] at hw; cases hw
  · rcases obj_app hk with ⟨hr, g⟩ | ⟨hr, g⟩
    · exact ⟨hobj r k l g (lo hr ha), fun b hb => (owno g (lo hr ha) b hb).2, fun _ b hb hB => hB.2 (owno g (lo hr ha) b hb).1, (hwr r k l g (lo hr ha)).2⟩
    · exact (hR.2.2 _ k g).elim
  · rcases obj_app hk with ⟨hr, g⟩ | ⟨hr, g⟩
    · rcases row_app hk' with ⟨hr', g'⟩ | ⟨hr', g'⟩
      · by_cases e : r = r'
        · subst e; exact row_ne_obj g' g
        · exact hsep r r' l'.b e ⟨l, lo hr ha, .inr ⟨k, g, hm⟩⟩ ⟨l', lo hr' ha', .inl ⟨k', g', rfl⟩⟩
      · exact hR.1 _ k' l' g' (hi hr' ha') (owno g (lo hr ha) _ hm).1
    · exact (hR.2.2 _ k g).elim
  · rcases obj_app hk with ⟨hr, g⟩ | ⟨hr, g⟩
    · rcases obj_app hk' with ⟨hr', g'⟩ | ⟨hr', g'⟩
      · exact hsep r r' b hne ⟨l, lo hr ha, .inr ⟨k, g, hm⟩⟩ ⟨l', lo hr' ha', .inr ⟨k', g', hm'⟩⟩
      · exact (hR.2.2 _ k' g').elim
    · exact (hR.2.2 _ k g).elim

/-- Likewise, and nothing may be written. -/
theorem HpR.openedR {w : World} {h0 : Hp} {ρ0 : List Loc} {o0 : Nat → List Nat} (hl0 : ρ0.length = h0.length)
    (hrow : ∀ r k l, h0.row r = some k → At ρ0 r l → k.wr = true ∧ BlkR ρ0 (fun _ => False) w l k) (hwr : ∀ r k l, h0.obj r = some k → At ρ0 r l → k.wr = true ∧ l.off = 0) (hat : ∀ r k, h0.obj r = some k → ∃ l, At ρ0 r l) (hobj : ∀ r k l, h0.obj r = some k → At ρ0 r l → ObjR k.ty k.elems l.b (o0 r) w)
    {own : List Nat} (hsep : ∀ r r' b', r ≠ r' → Owns o0 h0 ρ0 r b' → ¬ Owns o0 h0 ρ0 r' b') (hin : ∀ r b', Owns o0 h0 ρ0 r b' → b' ∈ own ∧ b' < w.heap.size) (hG : GlobOK w.heap.size w)
    {ρc : List Loc} {hp : Hp} (hlc : ρc.length = hp.length) (hR : Reads (fun b => b ∉ own) ρc hp w) : HpR w.heap.size (ρ0 ++ ρc) (Sx.freeze h0 ++ hp) w := by
  have fl : (Sx.freeze h0).length = h0.length := by simp [Sx.freeze]
  have owno : ∀ {r k l}, h0.obj r = some k → At ρ0 r l → ∀ b ∈ o0 r, b ∈ own ∧ b < w.heap.size := fun hk ha b hb => hin _ _ ⟨_, ha, .inr ⟨_, hk, hb⟩⟩
  have lo : ∀ {r l}, r < (Sx.freeze h0).length → At (ρ0 ++ ρc) r l → At ρ0 r l := fun hr ha => (at_app ha).1 (by rw [hl0, ← fl]; exact hr)
  have hi : ∀ {r l}, (Sx.freeze h0).length ≤ r → At (ρ0 ++ ρc) r l → At ρc (r - (Sx.freeze h0).length) l := fun hr ha => by rw [fl, ← hl0]; exact (at_app ha).2 (by rw [hl0, ← fl]; exact hr)
  refine ⟨by rw [List.length_append, List.length_append, fl, hl0, hlc], .refl _, fun r k l hk ha => ?_, fun r r' k k' l l' hk hk' hw hne ha ha' => ?_, hG, o0, fun r k l hk ha => ?_, fun r r' k k' l l' hk hk' ha ha' hm => ?_, fun r r' k k' l l' hk hk' hne ha ha' b hm hm' => ?_, fun r k hk => ?_⟩
  rotate_left 5
  · rcases obj_app hk with ⟨_, g⟩ | ⟨_, g⟩
    · obtain ⟨k', g', rfl⟩ := freeze_obj g
      exact let ⟨l, hl⟩ := hat r k' g'; ⟨l, getElem?_app ρc hl⟩
    · exact (hR.2.2 _ k g).elim
  · rcases row_app hk with ⟨hr, g⟩ | ⟨hr, g⟩
    · obtain ⟨k', g', rfl⟩ := freeze_row g
      obtain ⟨cur, ty, fr, h1, h2, _⟩ := ((hrow r k' l g' (lo hr ha)).2.app ρc).rowIs
      exact .ofRow (hrow r k' l g' (lo hr ha)).2.esz h1 h2 (by simp)
    · exact (hR.2.1 _ k l g (hi hr ha)).2 _
  · rcases row_app hk with ⟨hr, g⟩ | ⟨hr, g⟩
    · obtain ⟨k', g', rfl⟩ := freeze_row g
      simp at hw
    · have := (hR.2.1 _ k l g (hi hr ha)).1
      rw [this] at hw; cases hw
  · rcases obj_app hk with ⟨hr, g⟩ | ⟨hr, g⟩
    · obtain ⟨k', g', rfl⟩ := freeze_obj g
      exact ⟨hobj r k' l g' (lo hr ha), fun b hb => (owno g' (lo hr ha) b hb).2, fun h => by simp at h, (hwr r k' l g' (lo hr ha)).2⟩
    · exact (hR.2.2 _ k g).elim
  · rcases obj_app hk with ⟨hr, g⟩ | ⟨hr, g⟩
    · obtain ⟨k1, g1, rfl⟩ := freeze_obj g
      rcases row_app hk' with ⟨hr', g'⟩ | ⟨hr', g'⟩
      · obtain ⟨k2, g2, rfl⟩ := freeze_row g'
        by_cases e : r = r'
        · subst e; exact row_ne_obj g2 g1
        · exact hsep r r' l'.b e ⟨l, lo hr ha, .inr ⟨k1, g1, hm⟩⟩ ⟨l', lo hr' ha', .inl ⟨k2, g2, rfl⟩⟩
      · exact hR.1 _ k' l' g' (hi hr' ha') (owno g1 (lo hr ha) _ hm).1
    · exact (hR.2.2 _ k g).elim
  · rcases obj_app hk with ⟨hr, g⟩ | ⟨hr, g⟩
    · obtain ⟨k1, g1, rfl⟩ := freeze_obj g
      rcases obj_app hk' with ⟨hr', g'⟩ | ⟨hr', g'⟩
      · obtain ⟨k2, g2, rfl⟩ := freeze_obj g'
        exact hsep r r' b hne ⟨l, lo hr ha, .inr ⟨k1, g1, hm⟩⟩ ⟨l', lo hr' ha', .inr ⟨k2, g2, hm'⟩⟩
      · exact (hR.2.2 _ k' g').elim
    · exact (hR.2.2 _ k g).elim

theorem ptr0 {ρ ρ0 ρc : List Loc} {r : Nat} {st : Bool} {l lh : Loc} {v : Value} (hl : At ρ r l) (hoff : l.off = 0) (hv : AVR ρ (.ptr r 0 0 st) v) (hlh : At ρ0 0 lh) (hoffh : lh.off = 0) (hb : lh.b = l.b) : AVR (ρ0 ++ ρc) (.ptr 0 0 0 true) v := by
  obtain ⟨l', hl', rfl⟩ := ptr_inv hv
  have e := hl.inj hl'
  subst e
  have := AVR.ptr (ρ := ρ0 ++ ρc) (r := 0) (i := 0) (o := 0) (st := true) (getElem?_app ρc hlh)
  simpa [hoff, hoffh, hb] using this

theorem readSpec_ok {C : Call} (hC : COK P false C) {f : FuncId} {ty : TypeId} (hnr : ∀ es m, ¬ rawO ty es m) {ps : List Par} {F : List AV → List Arg → (Res → Prop) → Prop}
    (hF : ∀ h0 es as R, reprO ty es h0 → F es as R → ∃ r, R r ∧ r.ok ∧ ∃ hs, C f (.ptr 0 0 0 true :: (place h0.length ps as).1) (freeze h0 ++ (place h0.length ps as).2) hs (yields r)) : SpecOK P f (readSpec ty ps F) := by
  intro args h K hK B ρ w vs hH hv
  unfold readSpec at hK
  split at hK
  · rename_i r st xs
    split at hK
    · rename_i k hk
      split at hK
      · rename_i as hty has
        have hty := of_decide_eq_true hty
        obtain ⟨hFa, hin, hin2⟩ := argsIn_iff hK
        cases hv with
        | cons hp hv =>
          rename_i v vt
          obtain ⟨l, hl, _⟩ := ptr_inv hp
          obtain ⟨o, hO⟩ := hH.objs
          obtain ⟨hob, hlt, _, hoff⟩ := hO.is r k l hk hl
          rw [hty] at hob
          have hG : GlobOK w.heap.size w := hH.glob.mono hH.base
          revert hG
          generalize hbb : l.b = b at hob
          generalize hoo : o r = own at hob
          generalize hes : k.elems = es at hob hFa
          intro hG
          cases hob with
          | raw m hm => exact absurd hm (hnr _ _)
          | mk h0 ρ0 o0 hrep hl0 hrow hwr hat hobj hsep hown hhd =>
            obtain ⟨res, hk2, hok, hs, hc⟩ := hF h0 es as _ hrep hFa
            obtain ⟨lh, hlh, hoffh, hbh⟩ := hhd
            obtain ⟨ρc, e1, e2, e3⟩ := place_rel hH (F := fun b => b ∉ own) (fun r' k' l' g a => by rw [← hoo]; exact hO.row r r' k k' l l' hk g hl a) h0.length hv has hin hin2
            have hHc := HpR.openedR hl0 hrow hwr hat hobj hsep hown hG e1 e3
            have hargs : AVRs (ρ0 ++ ρc) (.ptr 0 0 0 true :: (place h0.length ps as).1) (v :: vt) := .cons (ptr0 hl hoff hp hlh hoffh (hbh.trans hbb.symm)) (e2 ρ0 hl0)
            have conv : ∀ u w', (∃ ρ' y h' hs', yields res y h' hs' ∧ AVR (ρ0 ++ ρc ++ ρ') y u ∧ HpR w.heap.size (ρ0 ++ ρc ++ ρ') h' w' ∧ Bel (if false = true then bl w.heap.size else bl w.heap.size) w w' ∧ (false = true → (freeze h0 ++ (place h0.length ps as).2) <+: h')) →
                ∃ ρ' x h', K x h' ∧ AVR (ρ ++ ρ') x u ∧ HpR B (ρ ++ ρ') h' w' ∧ Bel B w w' := by
              rintro u w' ⟨ρ', y, h2, hs', hy, hr, hh, hb, _⟩
              exact conv_res hH hk2 hok hy hr hh (by simpa using hb)
            rcases hC f _ _ hs _ hc w.heap.size (ρ0 ++ ρc) w (v :: vt) hHc hargs with ⟨hr, hcl⟩ | ⟨v', w', hr, hl'⟩
            · exact .inl ⟨hr, hcl.mono fun e w' he => by cases e with
                | returned v => exact conv v w' he
                | panicked c => exact he
                | outgrown => exact he⟩
            · exact .inr ⟨v', w', hr, conv v' w' hl'⟩
      · exact hK.elim
    · exact hK.elim
  · exact hK.elim

theorem mutSpec_ok {C : Call} (hC : COK P false C) {f : FuncId} {ty : TypeId} (hnr : ∀ es m, ¬ rawO ty es m) {ps : List Par} {F : List AV → List Arg → (List AV → AV → Prop) → Prop}
    (hF : ∀ h0 es as R, reprO ty es h0 → F es as R → ∃ es' x, R es' x ∧ x.pure3 = true ∧ ∃ hs, C f (.ptr 0 0 0 true :: (place h0.length ps as).1) (h0 ++ (place h0.length ps as).2) hs (turns ty es' x)) : SpecOK P f (mutSpec ty ps F) := by
  intro args h K hK B ρ w vs hH hv
  unfold mutSpec at hK
  split at hK
  · rename_i r st xs
    split at hK
    · rename_i k hk
      split at hK
      · rename_i as hty hwk has
        have hty := of_decide_eq_true hty
        obtain ⟨hFa, hin, hin2⟩ := argsIn_iff hK
        cases hv with
        | cons hp hv =>
          rename_i v vt
          obtain ⟨l, hl, _⟩ := ptr_inv hp
          obtain ⟨o, hO⟩ := hH.objs
          obtain ⟨hob, hlt, hgd, hoff⟩ := hO.is r k l hk hl
          rw [hty] at hob
          have hG : GlobOK (but w.heap.size (o r)) w := hH.glob.mono fun b hB => ⟨hH.base b hB, fun hm => hgd hwk b hm hB⟩
          have hlink : ∀ r' k' l', h.row r' = some k' → At ρ r' l' → l'.b ∉ o r := fun r' k' l' g a => hO.row r r' k k' l l' hk g hl a
          have hmut := fun {w' : World} (hb : Bel (but w.heap.size (o r)) w w') {es' : List AV} {own' : List Nat} (h1 : ObjR k.ty es' l.b own' w') (h2 : ∀ b ∈ own', b < w'.heap.size ∧ ¬ but w.heap.size (o r) b) => hH.mutObj hO hk hl hwk hb h1 h2
          revert hG hlink hmut
          generalize hbb : l.b = b at hob
          generalize hoo : o r = own at hob hlt
          generalize hes : k.elems = es at hob hFa
          intro hG hlink hmut
          cases hob with
          | raw m hm => exact absurd hm (hnr _ _)
          | mk h0 ρ0 o0 hrep hl0 hrow hwr hat hobj hsep hown hhd =>
            obtain ⟨es', x, hk2, hok, hs, hc⟩ := hF h0 es as _ hrep hFa
            obtain ⟨lh, hlh, hoffh, hbh⟩ := hhd
            obtain ⟨ρc, e1, e2, e3⟩ := place_rel hH (F := fun b => b ∉ own) hlink h0.length hv has hin hin2
            have hHc := HpR.opened hlt hl0 hrow hwr hat hobj hsep hown hG e1 e3
            have hargs : AVRs (ρ0 ++ ρc) (.ptr 0 0 0 true :: (place h0.length ps as).1) (v :: vt) := .cons (ptr0 hl hoff hp hlh hoffh (hbh.trans hbb.symm)) (e2 ρ0 hl0)
            have conv : ∀ u w', (∃ ρ' y h' hs', turns ty es' x y h' hs' ∧ AVR (ρ0 ++ ρc ++ ρ') y u ∧ HpR (but w.heap.size own) (ρ0 ++ ρc ++ ρ') h' w' ∧ Bel (if false = true then bl w.heap.size else but w.heap.size own) w w' ∧ (false = true → (h0 ++ (place h0.length ps as).2) <+: h')) →
                ∃ ρ' x h', K x h' ∧ AVR (ρ ++ ρ') x u ∧ HpR B (ρ ++ ρ') h' w' ∧ Bel B w w' := by
              rintro u w' ⟨ρ', y, h2, hs', ⟨hy, hcl⟩, hr, hh, hb, _⟩
              have hb : Bel (but w.heap.size own) w w' := by simpa using hb
              obtain ⟨σ, hc, hs0, hnd, hsub, hrep'⟩ := closeAt_iff hcl
              have hHc' := subHp hnd hsub hh
              have hl2 : At (σ.map (locAt (ρ0 ++ ρc ++ ρ'))) 0 lh := by
                refine ⟨?_, hlh.2⟩
                have hg := getElem?_app ρ' (getElem?_app ρc hlh)
                rw [List.getElem?_map, hs0, Option.map_some, locAt, List.getD_eq_getElem?_getD, hg.1]; rfl
              obtain ⟨own', hob', hown'⟩ := ObjR.close hrep' hHc' hl2 hoffh
              rw [hbh] at hob'
              obtain ⟨g1, g2⟩ := hmut hb (hty.symm ▸ hob') hown'
              have := canon2_rel hr
              rw [hy] at this
              rw [hty] at g1
              exact ⟨[], x, _, hk2, by simpa using pure3_any (ρ' := ρ) hok this, by simpa using g1, g2⟩
            rcases hC f _ _ hs _ hc (but w.heap.size own) (ρ0 ++ ρc) w (v :: vt) hHc hargs with ⟨hr, hcl⟩ | ⟨v', w', hr, hl'⟩
            · exact .inl ⟨hr, hcl.mono fun e w' he => by cases e with
                | returned v => exact conv v w' he
                | panicked c => exact he
                | outgrown => exact he⟩
            · exact .inr ⟨v', w', hr, conv v' w' hl'⟩
      · exact hK.elim
    · exact hK.elim
  · exact hK.elim

end
end Go.Sx
