/-
  Layer 3: the library's contracts (of the shelf), as contracts of the calculus.
-/
import Derived.Test.YtkdcajibehpeaaaDoorL1Base
import Derived.Test.YtkdcajibehpeaaaDoorSxP
import Derived.Test.YtkdcajibehpeaaaDoorShelf
namespace Go.Proofs.YtkdcajibehpeaaaDoor.L1
open Go.Sx Go.Sx.M Go.RowKit

def itoaF : List Arg → (Res → Prop) → Prop
  | [.v (.int .i64 n)], R => 0 ≤ n ∧ n ≤ 9223372036854775807 ∧ R (.v (.val (.string (tx (Lib.decDigits n.toNat)))))
  | _, _ => False

def idxF : List Arg → (Res → Prop) → Prop
  | [.v (.val (.string s)), .v (.int .u8 c)], R => R (.v (.int .i64 (Lib.indexByte s.data.toList c.toNat.toUInt8)))
  | _, _ => False

def repF : List Arg → (Res → Prop) → Prop
  | [.v (.val (.string s)), .v (.int .i64 c)], R => s.size ≤ 1 ∧ 0 ≤ c ∧ c ≤ 100 ∧ R (.v (.val (.string (tx (Lib.repeatL s.data.toList c.toNat)))))
  | _, _ => False

def pStr : Par := some (9, 1)

def joinF : List Arg → (Res → Prop) → Prop
  | [.row es, .v (.val (.string sep))], R => ∃ xs : List ByteArray, es = xs.map (fun x => .val (.string x)) ∧ xs.length ≤ 100 ∧ (Lib.join (xs.map (·.data.toList)) sep.data.toList).length ≤ 100000 ∧
      R (.v (.val (.string (tx (Lib.join (xs.map (·.data.toList)) sep.data.toList)))))
  | _, _ => False

def tzF : List Arg → (Res → Prop) → Prop
  | [.v (.w64 x)], R => R (.v (.int .i64 (Lib.ctz 64 x.toNat : Nat)))
  | _, _ => False

theorem itoa_ok : SpecOK Tryd.prog 33 (genSpec [none] itoaF) := by
  refine genSpec_ok (callsC_ok Tryd.func33 noNG (by kernel_rfl)) fun l R hF => ?_
  unfold itoaF at hF
  split at hF
  · rename_i n
    obtain ⟨h0, h1, hR⟩ := hF
    refine ⟨_, hR, rfl, [], rfl, .val (.string (tx (Lib.decDigits n.toNat))), fun B ρ w vs hH hv => ?_, rfl⟩
    obtain ⟨v, rfl, hv1⟩ := AVRs.one_inv hv
    obtain rfl := int_inv hv1
    refine (Tryd.strconv_Itoa n (by omega) h1 w (glob_var hH.glob (List.mem_cons_self ..) (by kernel_rfl))).mono fun e w' he => ?_
    obtain ⟨rfl, k, os, rfl⟩ := he
    refine ⟨_, rfl, ?_, below_grow w k os⟩
    have e : Lib.itoa n = Lib.decDigits n.toNat := by unfold Lib.itoa; rw [if_neg (by omega)]
    rw [e]
    exact .val _
  · exact hF.elim

theorem idx_ok : SpecOK Tryd.prog 62 (genSpec [none, none] idxF) := by
  refine genSpec_ok (callsC_ok Tryd.func62 noNG (by kernel_rfl)) fun l R hF => ?_
  unfold idxF at hF
  split at hF
  · rename_i s c
    refine ⟨_, hF, rfl, [], rfl, .int .i64 (Lib.indexByte s.data.toList c.toNat.toUInt8), fun B ρ w vs hH hv => ?_, rfl⟩
    obtain ⟨u, v, rfl, hu, hv1⟩ := AVRs.two_inv hv
    obtain rfl := val_inv hu
    obtain rfl := int_inv hv1
    refine (Tryd.stringslite_IndexByte s c w).mono fun e w' he => ?_
    obtain ⟨rfl, rfl⟩ := he
    exact ⟨_, rfl, .int _ _, Below.refl _ _⟩
  · exact hF.elim

theorem rep_ok : SpecOK Tryd.prog 54 (genSpec [none, none] repF) := by
  refine genSpec_ok (callsC_ok Tryd.func54 noNG (by kernel_rfl)) fun l R hF => ?_
  unfold repF at hF
  split at hF
  · rename_i s c
    obtain ⟨h0, h1, h2, hR⟩ := hF
    refine ⟨_, hR, rfl, [], rfl, .val (.string (tx (Lib.repeatL s.data.toList c.toNat))), fun B ρ w vs hH hv => ?_, rfl⟩
    obtain ⟨u, v, rfl, hu, hv1⟩ := AVRs.two_inv hv
    obtain rfl := val_inv hu
    obtain rfl := int_inv hv1
    have hm : s.size * c.toNat ≤ 1 * 100 := Nat.mul_le_mul h0 (by omega)
    have := Tryd.strings_Repeat s c.toNat w (by omega) (by omega)
    rw [show ((c.toNat : Nat) : Int) = c from by omega] at this
    refine this.mono fun e w' he => ?_
    obtain ⟨rfl, hb⟩ := he
    exact ⟨_, rfl, .val _, hb⟩
  · exact hF.elim

theorem tz_ok : SpecOK Tryd.prog 84 (genSpec [none] tzF) := by
  refine genSpec_ok (callsC_ok Tryd.func84 noNG (by kernel_rfl)) fun l R hF => ?_
  unfold tzF at hF
  split at hF
  · rename_i x
    refine ⟨_, hF, rfl, [], rfl, .int .i64 (Lib.ctz 64 x.toNat : Nat), fun B ρ w vs hH hv => ?_, rfl⟩
    obtain ⟨v, rfl, hv1⟩ := AVRs.one_inv hv
    obtain rfl := w64_inv hv1
    obtain ⟨ty, fr, hc⟩ := glob_cells (g := 3) hH.glob (List.mem_cons_of_mem _ (List.mem_cons_self ..))
    refine (Tryd.bits_TrailingZeros x.toNat w x.isLt fun _ j hj => ?_).mono fun e w' he => ?_
    · simp [World.cell?, hc, List.getD, hj]
    · obtain ⟨rfl, rfl⟩ := he
      exact ⟨_, rfl, .int _ _, Below.refl _ _⟩
  · exact hF.elim

theorem join_ok : SpecOK Tryd.prog 28 (genSpec [pStr, none] joinF) := by
  refine genSpec_ok (callsC_ok Tryd.func28 noNG (by kernel_rfl)) fun l R hF => ?_
  unfold joinF at hF
  split at hF
  · rename_i es sep
    obtain ⟨xs, rfl, h1, h2, hR⟩ := hF
    refine ⟨_, hR, rfl, [], rfl, .val (.string (tx (Lib.join (xs.map fun (x : ByteArray) => x.data.toList) sep.data.toList))), fun B ρ w vs hH hv => ?_, rfl⟩
    obtain ⟨u, v, rfl, hu, hv1⟩ := AVRs.two_inv hv
    obtain rfl := val_inv hv1
    rw [List.length_map] at hu
    rcases vsl_inv hu with ⟨h0, rfl⟩ | hu
    · obtain rfl := List.eq_nil_of_length_eq_zero h0
      refine (Tryd.strings_Join_none none 0 sep w).mono fun e w' he => ?_
      obtain ⟨rfl, rfl⟩ := he
      exact ⟨_, rfl, .val _, Below.refl _ _⟩
    · have hlen : 0 + xs.length ≤ (xs.map fun x => AV.val (.string x)).length := by simp
      obtain ⟨l, ad, c, news, hl, rfl, hn, hri, hcell, _⟩ := slice_vals hH (hu true) (k := ⟨false, 9, 1, true, xs.map fun x => .val (.string x)⟩) rfl hlen (Nat.zero_lt_one)
      obtain ⟨l', ad', c', hl', g1, g2, g3, e⟩ := slice_inv (hu true)
      cases e
      by_cases h0 : xs.length = 0
      · obtain rfl := List.eq_nil_of_length_eq_zero h0
        refine (Tryd.strings_Join_none (some ad) c sep w).mono fun e w' he => ?_
        obtain ⟨rfl, rfl⟩ := he
        exact ⟨_, rfl, .val _, Below.refl _ _⟩
      · have had := g3 (by omega)
        have hb := hH.blk 0 ⟨false, 9, 1, true, xs.map fun x => .val (.string x)⟩ l' rfl hl'
        have hc : ∀ (j : Nat) x, xs[j]? = some x → w.cell? ⟨l'.b, l'.off + 0 * l'.esz + j, none⟩ = some (.string x) := by
          intro j x hx
          have hj : j < xs.length := (List.getElem?_eq_some_iff.1 hx).1
          obtain ⟨q1, q2, q3⟩ := hri j (.val (.string x)) (by
            rw [List.drop_zero, List.take_of_length_le (by simp), List.getElem?_map, hx]; rfl)
          obtain ⟨v, hv, hr⟩ := q3 0 (.val (.string x)) rfl
          obtain rfl := val_inv hr
          have := hcell j _ (by simpa using hv)
          rw [had, addr_add] at this
          exact this
        have := Tryd.strings_Join l'.b (l'.off + 0 * l'.esz) c xs sep w hc hb.lt (by omega) (by omega) (by omega)
        rw [had]
        refine this.mono fun e w' he => ?_
        obtain ⟨rfl, hb⟩ := he
        exact ⟨_, rfl, .val _, hb⟩
  · exact hF.elim

end Go.Proofs.YtkdcajibehpeaaaDoor.L1
