/-
  The calculus (SxA): any operation.
-/
import Derived.Test.YthfgocpejlhanaaSxG
namespace Go.Sx
open Go.RowKit

section
variable {P : Program}

theorem AVR.nilS {ρ : List Loc} : AVR ρ (.lit nilS) nilS := .lit _

theorem rowIs_replicate {ρ : List Loc} {z : Value} {e : AV} {s n m : Nat} (he : ∀ ρ, AVR ρ e z) (hs : e.sound = true) (hz : z.cells.size = s) (_hpos : 0 < s) (hnm : n ≤ m) : RowIs ρ e.plain s (List.replicate n e) (madeCells z.cells (m * s)).toList := by
  intro i x hx
  have hi : i < n := by simpa using (List.getElem?_eq_some_iff.1 hx).1
  have hxe : x = e := by rw [List.getElem?_replicate, if_pos hi] at hx; exact (Option.some.inj hx).symm
  subst hxe
  have hone := RowIs.one (ρ := ρ) (f := x.plain) hs (he _) (fun h => h) 0 x (by simp)
  have hlen : x.cells.length = s := by rw [(AVR.cells (ρ := ρ) hs (he _)).length]; simpa using hz
  refine ⟨hlen, hs, fun o c hc => ?_⟩
  obtain ⟨v, hv, hr⟩ := hone.2.2 o c hc
  refine ⟨v, ?_, hr⟩
  have ho : o < s := hlen ▸ (List.getElem?_eq_some_iff.1 hc).1
  have hq : i * s + o < m * s := by
    calc i * s + o < i * s + s := by omega
      _ = (i + 1) * s := by rw [Nat.add_mul]; omega
      _ ≤ m * s := Nat.mul_le_mul_right _ (by omega)
  simp only [Nat.zero_mul, Nat.zero_add] at hv
  have hv' : z.cells[o]? = some v := by simpa using hv
  simp only [madeCells, Array.toList_map, Array.toList_range, List.getElem?_map, List.getElem?_range hq, Option.map_some, hz]
  rw [show (i * s + o) % s = o from by rw [Nat.add_comm, Nat.add_mul_mod_self_right, Nat.mod_eq_of_lt ho]]
  rw [getElem!_def, hv']

/-- Of a slice: the values of its elements. -/
theorem slice_vals {B : Gd} {ρ : List Loc} {h : Hp} {w : World} (hH : HpR B ρ h w) {r i n : Nat} {st : Bool} {v : Value} {k : Blk} (hv : AVR ρ (.slice r i n st) v) (hk : h.row r = some k) (hin : i + n ≤ k.elems.length) (hpos : 0 < k.esz) :
    ∃ (l : Loc) (ad : Addr) (c : Nat) (news : List Value), At ρ r l ∧ v = .slice (some ad) n c ∧ news.length = n * k.esz ∧ RowIs ρ k.flat k.esz ((k.elems.drop i).take n) news ∧ (∀ (j : Nat) u, news[j]? = some u → w.cell? (ad.add j) = some u) ∧ (∀ u ∈ news, u.oneCell' = true) := by
  obtain ⟨l, ad, cc, hl, h1, hcc, h2, rfl⟩ := slice_inv hv
  obtain ⟨cur, ty, fr, hrow, hri, _⟩ := (hH.blk r k l hk hl).rowIs
  have hesz := (hH.blk r k l hk hl).esz
  have hr1 := (hri.drop i).take n
  rw [List.drop_drop] at hr1
  have hlen : ((cur.toList.drop (l.off + i * k.esz)).take (n * k.esz)).length = n * k.esz := by
    have h3 := hri.len
    rw [List.length_drop] at h3
    have h4 : (i + n) * k.esz ≤ k.elems.length * k.esz := Nat.mul_le_mul_right _ hin
    rw [Nat.add_mul] at h4
    rw [List.length_take, List.length_drop]
    rcases Nat.eq_zero_or_pos (n * k.esz) with h0 | h0
    · rw [h0]; simp
    · omega
  refine ⟨l, ad, _, _, hl, rfl, hlen, hr1, fun j u hj => ?_, fun u hu => ?_⟩
  · have hjl : j < n * k.esz := hlen ▸ (List.getElem?_eq_some_iff.1 hj).1
    have hn0 : 0 < n := by rcases Nat.eq_zero_or_pos n with h0 | h0; · simp [h0] at hjl
                           · exact h0
    rw [h2 (by omega), addr_add, cell_of_row w l.b _ cur ty fr hrow, hesz]
    rw [List.getElem?_take, if_pos hjl, List.getElem?_drop] at hj
    simpa using hj
  · obtain ⟨j, hj⟩ := List.mem_iff_getElem?.1 hu
    have hjl : j < n * k.esz := hlen ▸ (List.getElem?_eq_some_iff.1 hj).1
    have hn : n = ((k.elems.drop i).take n).length := by rw [List.length_take, List.length_drop]; omega
    have hq : j / k.esz < n := Nat.div_lt_of_lt_mul (by rw [Nat.mul_comm]; exact hjl)
    obtain ⟨g1, g2, g3⟩ := hr1 (j / k.esz) _ (List.getElem?_eq_getElem (by omega))
    have ho : j % k.esz < k.esz := Nat.mod_lt _ hpos
    obtain ⟨u', hu', hr'⟩ := g3 (j % k.esz) _ (List.getElem?_eq_getElem (by omega))
    rw [Nat.div_add_mod'] at hu'
    rw [hj] at hu'; cases hu'
    exact AVR.one (AV.sound_cells g2 _ (List.getElem_mem _)) hr'

theorem noRow {h : Hp} {rx r : Nat} {k : Blk} (hk : Hp.row (h.set rx none) r = some k) : r ≠ rx ∧ h.row r = some k := by
  rcases row_set hk with ⟨_, e⟩ | h
  · cases e
  · exact h

theorem noObj {h : Hp} {rx r : Nat} {k : Blk} (hk : Hp.obj (h.set rx none) r = some k) : h.obj r = some k := by
  rcases obj_set hk with ⟨_, e⟩ | h
  · cases e
  · exact h.2

theorem appendA_sound {B : Gd} {ρ : List Loc} {h : Hp} {w : World} {t ty e : TypeId} {i : TypeInfo} {z : Value} {x y : AV} {u v : Value} {hs : List Hint} {K : AV → Hp → List Hint → Prop}
    (ht : P.underlying t = some (.slice e)) (hi : P.info? e = some i) (hz : i.zero = some z) (hzs : z.cells.size = i.size) (hpos : 0 < i.size)
    (hK : appendA h e i x y hs K) (hH : HpR B ρ h w) (hx : AVR ρ x u) (hy : AVR ρ y v) :
    ∃ ρ' a' u' h' hs' w', K a' h' hs' ∧ (Builtin.append_ #[t, t] ty #[u, v]).run P w = .ok u' w' ∧ AVR (ρ ++ ρ') a' u' ∧ HpR B (ρ ++ ρ') h' w' ∧ Bel B w w' := by
  unfold appendA at hK
  split at hK
  · -- nil, nil
    cases hx; cases hy
    refine ⟨[], _, _, _, _, w, hK, ?_, AVR.nilS, by simpa using hH, Bel.refl _ _⟩
    simp [Builtin.append_, run_und ht, sizeOf, run_tinfo hi, Builtin.lenOf, Builtin.firstCells, nilS]
  · -- x, nil
    rename_i r j n s
    cases hy
    obtain ⟨l, ad, cc, hl, h1, hcc, h2, rfl⟩ := slice_inv hx
    refine ⟨[], _, _, _, _, w, hK, ?_, by simpa using hx, by simpa using hH, Bel.refl _ _⟩
    simp [Builtin.append_, run_und ht, sizeOf, run_tinfo hi, Builtin.lenOf, Builtin.firstCells, h1, storeCells]
  · -- nil, y
    rename_i ry iy ny sy
    cases hx
    split at hK
    · rename_i ky hky
      split at hK
      · rename_i hesz
        have hesz := of_decide_eq_true hesz
        have fresh : ∀ (n : Nat) (s : Bool) hs', ny = n → 0 < n → n * i.bytes ≤ 140737488355328 → n ≤ 9223372036854775807 → iy + n ≤ ky.elems.length →
            K (.slice h.length 0 n s) (h ++ [some ⟨true, e, i.size, ky.flat, (ky.elems.drop iy).take n⟩]) hs' →
            ∃ ρ' a' u' h' hs' w', K a' h' hs' ∧ (Builtin.append_ #[t, t] ty #[.slice none 0 0, v]).run P w = .ok u' w' ∧ AVR (ρ ++ ρ') a' u' ∧ HpR B (ρ ++ ρ') h' w' ∧ Bel B w w' := by
          rintro n s hs' rfl h0 hb hm hl hK
          obtain ⟨l, ad, c, news, hl', rfl, hlen, hri, hcell, hone⟩ := slice_vals hH hy hky hl (by omega)
          rw [hesz] at hlen
          have hr := run_append_nil (P := P) w t ty e i z ht hi hz ad ny c news hlen hcell h0 (by omega) (by omega)
          have hcap := grownCap_ge w ny 0 e
          have hcm := grownCap_le_maxLen w ny 0 e (by unfold maxLen; omega)
          have hnr := hH.newRow (k := ⟨true, e, i.size, ky.flat, (ky.elems.drop iy).take ny⟩) (cells := news.toArray ++ Builtin.zeroCells z.cells (grownCap w ny 0 e - ny)) (cap := grownCap w ny 0 e) rfl (Nat.ne_of_gt hpos)
            (by rw [← hesz]; exact hri.grow fun j u hj => by rw [Array.toList_append, List.getElem?_append_left (List.getElem?_eq_some_iff.1 hj).1]; exact hj)
            (by simp only [Array.size_append, List.size_toArray, size_zeroCells, hzs, hlen, ← Nat.add_mul]; congr 1; omega) hcm (by rw [List.length_take]; omega)
            (w' := w.drew.alloc (.cells (news.toArray ++ Builtin.zeroCells z.cells (grownCap w ny 0 e - ny)) e)) rfl rfl rfl rfl (fun _ => Nat.le_succ _)
          refine ⟨[⟨w.heap.size, 0, i.size, grownCap w ny 0 e, false⟩], _, _, _, _, _, hK, hr, ?_, hnr.1, hnr.2.mono hH.base⟩
          have hsl := AVR.slice (ρ := ρ ++ [⟨w.heap.size, 0, i.size, grownCap w ny 0 e, false⟩]) (r := h.length) (i := 0) (len := ny) (st := s) (l := ⟨w.heap.size, 0, i.size, grownCap w ny 0 e, false⟩) (a := ⟨w.heap.size, 0, none⟩)
            (At.new hH.len rfl) hcap (by simp) (fun _ => by simp)
          simpa using hsl
        have none' : ∀ hs', ny = 0 → K (.lit nilS) h hs' →
            ∃ ρ' a' u' h' hs' w', K a' h' hs' ∧ (Builtin.append_ #[t, t] ty #[.slice none 0 0, v]).run P w = .ok u' w' ∧ AVR (ρ ++ ρ') a' u' ∧ HpR B (ρ ++ ρ') h' w' ∧ Bel B w w' := by
          rintro hs' rfl hK
          obtain ⟨l, ad, cc, hl, h1, hcc, h2, rfl⟩ := slice_inv hy
          refine ⟨[], _, _, _, _, w, hK, ?_, AVR.nilS, by simpa using hH, Bel.refl _ _⟩
          simp [Builtin.append_, run_und ht, sizeOf, run_tinfo hi, Builtin.lenOf, Builtin.firstCells, nilS, loadCells, loadCellsFrom]
        split at hK
        · exact none' _ rfl hK
        · obtain ⟨⟨g1, g2, g3⟩, hK⟩ := need_iff hK
          exact fresh _ _ _ rfl (by omega) g1 g2 g3 hK
        · obtain ⟨⟨g0, g1, g2, g3⟩, hK⟩ := hK
          exact fresh _ _ _ rfl g0 g1 g2 g3 hK
        · exact none' _ hK.1 hK.2
        · exact hK.elim
      · exact hK.elim
    · exact hK.elim
  · -- x, y
    rename_i rx nx sx ry iy ny sy
    split at hK
    · rename_i kx ky hkx hky
      split at hK
      · rename_i hc
        simp only [Bool.and_eq_true, decide_eq_true_eq] at hc
        obtain ⟨hw, hty, hex, hey⟩ := hc
        obtain ⟨⟨g1, g2, g3, g4⟩, hK⟩ := need_iff hK
        obtain ⟨ly, ad, c, news, hly, rfl, hlen, hri, hcell, hone⟩ := slice_vals hH hy hky g3 (by omega)
        obtain ⟨lx, ax, cx, hlx, hx1, hcx, hx2, rfl⟩ := slice_inv hx
        have hbx := hH.blk rx kx lx hkx hlx
        obtain ⟨cur, ty0, fr, hrow, hrx, hcapx⟩ := hbx.rowIs
        obtain ⟨rfl, rfl, hoff, hcs, hcm, hB, hle⟩ := hcapx hw
        rw [hoff, List.drop_zero] at hrx
        rw [hex] at hrx hcs
        rw [hey] at hlen hri
        rw [Nat.sub_zero] at hcx
        have htk : (cur.toList.take (nx * i.size)).length = nx * i.size := by
          have h3 := hrx.len
          have h4 : nx * i.size ≤ kx.elems.length * i.size := Nat.mul_le_mul_right _ g4
          rw [List.length_take]; omega
        have hnew : ∀ ρ'', RowIs (ρ ++ ρ'') (kx.flat && ky.flat) i.size (kx.elems.take nx ++ (ky.elems.drop iy).take ny) (cur.toList.take (nx * i.size) ++ news) := fun ρ'' =>
          ((((hrx.take nx).weaken (g := kx.flat && ky.flat) (by simp; intro a _; exact a)).append (hri.weaken (g := kx.flat && ky.flat) (by simp)) (by rw [htk, List.length_take]; congr 1; omega))).app ρ''
        have hln : (kx.elems.take nx ++ (ky.elems.drop iy).take ny).length = nx + ny := by rw [List.length_append, List.length_take, List.length_take, List.length_drop]; omega
        by_cases hroom : nx + ny ≤ cx
        · have hfit : nx * i.size + news.length ≤ cur.size := by rw [hlen, hcs, ← Nat.add_mul]; exact Nat.mul_le_mul_right _ (Nat.le_trans hroom hcx)
          have hr : (Builtin.append_ #[t, t] ty #[.slice (some ax) nx cx, .slice (some ad) ny c]).run P w = .ok (.slice (some ax) (nx + ny) cx) (w.setRow lx.b (cur.toList.take (nx * i.size) ++ news ++ cur.toList.drop (nx * i.size + news.length)).toArray) := by
            rcases Nat.eq_zero_or_pos cx with h0 | h0
            · have e1 : nx = 0 := by omega
              have e2 : ny = 0 := by omega
              subst e1; subst e2
              have e3 : news = [] := List.eq_nil_of_length_eq_zero (by simpa using hlen)
              subst e3
              simp only [Nat.zero_mul, List.take_zero, List.nil_append, List.length_nil, Nat.add_zero, List.drop_zero, Array.toArray_toList]
              rw [setRow_self w lx.b cur _ _ hrow]
              simp [Builtin.append_, run_und ht, sizeOf, run_tinfo hi, Builtin.lenOf, Builtin.firstCells, storeCells, loadCells, loadCellsFrom]
            · rw [hx2 h0, hoff, Nat.zero_mul, Nat.zero_add]
              exact run_append_room (P := P) w t ty e i ht hi lx.b nx cx cur (hty ▸ hrow) ad ny c news hlen hcell hone (by omega) hfit
          generalize harr : (cur.toList.take (nx * i.size) ++ news ++ cur.toList.drop (nx * i.size + news.length)) = arr at hr
          have hal : arr.length = cur.size := by rw [← harr]; simp only [List.length_append, List.length_drop, htk, Array.length_toList]; omega
          -- the old name is given up, the new one stands for the same row
          have hrow' := setRow_heap w lx.b cur arr.toArray _ _ hrow
          have hbl : Bel B w (w.setRow lx.b arr.toArray) := ⟨⟨rfl, rfl, rfl, by rw [size_setRow]; exact Nat.le_refl _, fun j hj => setRow_other w lx.b j _ (fun e => hB (e ▸ hj))⟩, fun _ => Nat.le_refl _⟩
          obtain ⟨o, hO⟩ := hH.objs
          have hOk : ObjsO o B ρ (h.set rx none) (w.setRow lx.b arr.toArray) := (hO.same (fun r k hk => noObj hk) fun r k hk => ⟨k, (noRow hk).2, id⟩).change (by rw [size_setRow]; exact Nat.le_refl _) fun r k l hk hl b hb => setRow_other w lx.b b _ fun e => hO.row r rx k kx l lx (noObj hk) hkx hl hlx (.inr hw) (e ▸ hb)
          have hkill : HpR B ρ (h.set rx none) (w.setRow lx.b arr.toArray) := by
            have hk0 := hH.kill rx
            refine ⟨hk0.len, by rw [size_setRow]; exact hH.base, fun r k l hk hl => ?_, hk0.sep, hH.glob.below hbl, o, hOk⟩
            refine (hk0.blk r k l hk hl).same (setRow_other w lx.b l.b _ ?_)
            have hrr : r ≠ rx ∧ h.row r = some k := noRow hk
            exact (hH.sep rx r kx k lx l hkx hrr.2 hw (Ne.symm hrr.1) hlx hl).symm
          have hpush := hkill.push (k := ⟨true, e, i.size, kx.flat && ky.flat, kx.elems.take nx ++ (ky.elems.drop iy).take ny⟩) (l := lx) (Nat.ne_of_gt hpos)
            (.ofRow (by rw [hbx.esz, hex]) (cur := arr.toArray) (ty := e) (fr := (0, 0)) (by rw [← hty]; exact hrow')
              (by rw [hoff, List.drop_zero, ← harr]; exact (hnew [lx]).grow fun j u hj => by
                    rw [List.getElem?_append_left (List.getElem?_eq_some_iff.1 hj).1]; exact hj)
              (fun _ => ⟨rfl, rfl, hoff, by rw [List.size_toArray, hal]; exact hcs, hcm, hB, by rw [hln]; exact Nat.le_trans hroom hcx⟩))
            (fun r k' l' hk' hl' => by
              have hrr : r ≠ rx ∧ h.row r = some k' := noRow hk'
              exact (hH.sep rx r kx k' lx l' hkx hrr.2 hw (Ne.symm hrr.1) hlx hl').symm)
            hOk (fun r k' l' hk' hl' => hO.row r rx k' kx l' lx (noObj hk') hkx hl' hlx (.inr hw))
          refine ⟨[lx], _, _, _, _, _, hK, hr, ?_, hpush, hbl⟩
          have hsl := AVR.slice (ρ := ρ ++ [lx]) (r := h.length) (i := 0) (len := nx + ny) (st := sx && sy) (l := lx) (a := ax) (At.new hH.len hlx.2) hroom (by rw [Nat.sub_zero]; exact hcx) hx2
          exact hsl
        · have hr := run_append_grow (P := P) w t ty e i z ht hi hz ax nx cx (cur.toList.take (nx * i.size)) htk (fun j v hj => by
              have hjl : j < nx * i.size := htk ▸ (List.getElem?_eq_some_iff.1 hj).1
              have hn0 : 0 < nx := by rcases Nat.eq_zero_or_pos nx with h0 | h0; · simp [h0] at hjl
                                      · exact h0
              rw [hx2 (by omega), hoff, Nat.zero_mul, Nat.zero_add, addr_add, Nat.zero_add, cell_of_row w lx.b _ cur kx.ty (0, 0) hrow]
              rw [List.getElem?_take, if_pos hjl] at hj
              simpa using hj) ad ny c news hlen hcell (by omega) (by omega) (growslice_fits (by omega) g1)
          have hcap := grownCap_ge w (nx + ny) cx e
          have hcm' := grownCap_le_maxLen w (nx + ny) cx e (by unfold maxLen; omega)
          have hnr := (hH.kill rx).newRow (k := ⟨true, e, i.size, kx.flat && ky.flat, kx.elems.take nx ++ (ky.elems.drop iy).take ny⟩)
            (cells := (cur.toList.take (nx * i.size)).toArray ++ news.toArray ++ Builtin.zeroCells z.cells (grownCap w (nx + ny) cx e - (nx + ny))) (cap := grownCap w (nx + ny) cx e) rfl (Nat.ne_of_gt hpos)
            (by have := hnew []; rw [List.append_nil] at this
                exact this.grow fun j u hj => by simp only [Array.toList_append]; rw [List.getElem?_append_left (List.getElem?_eq_some_iff.1 hj).1]; exact hj)
            (by simp only [Array.size_append, List.size_toArray, size_zeroCells, hzs, hlen, htk, ← Nat.add_mul]; congr 1; omega) hcm' (by simp only; omega)
            (w' := w.drew.alloc (.cells ((cur.toList.take (nx * i.size)).toArray ++ news.toArray ++ Builtin.zeroCells z.cells (grownCap w (nx + ny) cx e - (nx + ny))) e)) rfl rfl rfl rfl (fun _ => Nat.le_succ _)
          refine ⟨[⟨w.heap.size, 0, i.size, grownCap w (nx + ny) cx e, false⟩], _, _, _, _, _, hK, hr, ?_, hnr.1, hnr.2.mono hH.base⟩
          have hsl := AVR.slice (ρ := ρ ++ [⟨w.heap.size, 0, i.size, grownCap w (nx + ny) cx e, false⟩]) (r := h.length) (i := 0) (len := nx + ny) (st := sx && sy) (l := ⟨w.heap.size, 0, i.size, grownCap w (nx + ny) cx e, false⟩) (a := ⟨w.heap.size, 0, none⟩)
            (At.new hH.len rfl) hcap (by simp) (fun _ => by simp)
          exact hsl
      · exact hK.elim
    · exact hK.elim
  · exact hK.elim

theorem kill_push {h : Hp} {r : Nat} {k : Blk} (hk : h.row r = some k) (x : Option Blk) : (h ++ [x] : Hp).set r none = h.set r none ++ [x] := by
  rw [List.set_append_left _ _ (row_lt hk)]

/-- nil, and what may be nil. -/
theorem appendN_sound {B : Gd} {ρ : List Loc} {h : Hp} {w : World} {t ty e : TypeId} {i : TypeInfo} {z : Value} {v : Value} {ry iy ny : Nat} {ky : Blk}
    (ht : P.underlying t = some (.slice e)) (hi : P.info? e = some i) (hz : i.zero = some z) (hzs : z.cells.size = i.size) (hpos : 0 < i.size)
    (hky : h.row ry = some ky) (hey : ky.esz = i.size) (g1 : ny * i.bytes ≤ 140737488355328) (g2 : ny ≤ 9223372036854775807) (g3 : iy + ny ≤ ky.elems.length)
    (hH : HpR B ρ h w) (hy : AVR ρ (.vsl ry iy ny) v) :
    ∃ l u' w', (Builtin.append_ #[t, t] ty #[.slice none 0 0, v]).run P w = .ok u' w' ∧ AVR (ρ ++ [l]) (.vsl h.length 0 ny) u' ∧ HpR B (ρ ++ [l]) (h ++ [some ⟨true, e, i.size, ky.flat, (ky.elems.drop iy).take ny⟩]) w' ∧ Bel B w w' := by
  have nil : ∀ w', ny = 0 → HpR B ρ h w' → AVR (ρ ++ [⟨0, 0, 0, 0, true⟩]) (.vsl h.length 0 ny) (.slice none 0 0) ∧ HpR B (ρ ++ [⟨0, 0, 0, 0, true⟩]) (h ++ [some ⟨true, e, i.size, ky.flat, (ky.elems.drop iy).take ny⟩]) w' :=
    fun w' h0 hH' => ⟨.vslN h0, hH'.pushPh _ (Nat.ne_of_gt hpos) rfl⟩
  rcases vsl_inv hy with ⟨h0, rfl⟩ | hy
  · obtain ⟨n1, n2⟩ := nil w h0 hH
    refine ⟨_, _, w, ?_, n1, n2, Bel.refl _ _⟩
    simp [Builtin.append_, run_und ht, sizeOf, run_tinfo hi, Builtin.lenOf, Builtin.firstCells]
  · rcases Nat.eq_zero_or_pos ny with rfl | h0
    · obtain ⟨ρ', a', u', h', hs', w', ⟨rfl, rfl, rfl⟩, hr, ha, hH', hb⟩ := appendA_sound (P := P) (t := t) (ty := ty) (x := .lit (.slice none 0 0)) (y := .slice ry iy 0 true) (hs := []) (K := fun a h' hs => a = .lit nilS ∧ h' = h ∧ hs = []) ht hi hz hzs hpos
        (by unfold appendA; simp [hky, hey]) hH (.lit _) (hy true)
      cases ha
      have hl : ρ' = [] := by have h1 := hH'.len; rw [List.length_append, hH.len] at h1; exact List.eq_nil_of_length_eq_zero (by omega)
      subst hl
      rw [List.append_nil] at hH'
      obtain ⟨n1, n2⟩ := nil w' rfl hH'
      exact ⟨_, _, w', hr, n1, n2, hb⟩
    · obtain ⟨ρ', a', u', h', hs', w', ⟨rfl, rfl, rfl⟩, hr, ha, hH', hb⟩ := appendA_sound (P := P) (t := t) (ty := ty) (x := .lit (.slice none 0 0)) (y := .slice ry iy ny false) (hs := [.br true])
        (K := fun a h' hs => a = .slice h.length 0 ny false ∧ h' = h ++ [some ⟨true, e, i.size, ky.flat, (ky.elems.drop iy).take ny⟩] ∧ hs = []) ht hi hz hzs hpos
        (by unfold appendA; simp [hky, hey]; omega) hH (.lit _) (hy false)
      obtain ⟨l, rfl⟩ : ∃ l, ρ' = [l] := by
        have h1 := hH'.len; rw [List.length_append, hH.len, List.length_append] at h1
        exact List.length_eq_one_iff.1 (by simpa using h1)
      exact ⟨l, u', w', hr, vsl_of ha, hH', hb⟩

theorem appendV_sound {B : Gd} {ρ : List Loc} {h : Hp} {w : World} {t ty e : TypeId} {i : TypeInfo} {z : Value} {u v : Value} {rx nx ry iy ny : Nat} {hs : List Hint} {K : AV → Hp → List Hint → Prop}
    (ht : P.underlying t = some (.slice e)) (hi : P.info? e = some i) (hz : i.zero = some z) (hzs : z.cells.size = i.size) (hpos : 0 < i.size)
    (hK : appendV h e i rx nx ry iy ny hs K) (hH : HpR B ρ h w) (hx : AVR ρ (.vsl rx 0 nx) u) (hy : AVR ρ (.vsl ry iy ny) v) :
    ∃ ρ' a' u' h' hs' w', K a' h' hs' ∧ (Builtin.append_ #[t, t] ty #[u, v]).run P w = .ok u' w' ∧ AVR (ρ ++ ρ') a' u' ∧ HpR B (ρ ++ ρ') h' w' ∧ Bel B w w' := by
  unfold appendV at hK
  split at hK
  · rename_i kx ky hkx hky
    split at hK
    · rename_i hc
      simp only [Bool.and_eq_true, decide_eq_true_eq, beq_iff_eq] at hc
      obtain ⟨⟨hw, hfl⟩, hty, hex, hey⟩ := hc
      obtain ⟨⟨g1, g2, g3, g4⟩, hK⟩ := hK
      have hK : ∃ hs, K (.vsl h.length 0 (nx + ny)) (h.set rx none ++ [some ⟨true, e, i.size, ky.flat, kx.elems.take nx ++ (ky.elems.drop iy).take ny⟩]) hs := by
        split at hK
        · obtain ⟨rfl, hK⟩ := hK; exact ⟨_, hK⟩
        · exact ⟨_, hK⟩
      obtain ⟨hs, hK⟩ := hK
      have kl : (h.set rx none).length = h.length := by simp
      rcases vsl_inv hx with ⟨rfl, rfl⟩ | hx
      · rw [Nat.zero_add] at g1 g2 hK
        obtain ⟨l, u', w', hr, ha, hH', hb⟩ := appendN_sound (P := P) (t := t) (ty := ty) ht hi hz hzs hpos hky hey g1 g2 g3 hH hy
        refine ⟨[l], _, _, _, _, w', hK, hr, ha, ?_, hb⟩
        have := hH'.kill rx
        rw [kill_push hkx] at this
        simpa using this
      · rcases vsl_inv hy with ⟨rfl, rfl⟩ | hy
        · obtain ⟨lx, ax, cx, hlx, hx1, hcx, hx2, rfl⟩ := slice_inv (hx true)
          have hbx := hH.blk rx kx lx hkx hlx
          obtain ⟨cur, ty0, fr, hrow, hrx, hcapx⟩ := hbx.rowIs
          obtain ⟨rfl, c1, c2, c3, c4, c5, c6⟩ := hcapx hw
          refine ⟨[lx], _, .slice (some ax) nx cx, _, _, w, hK, ?_, ?_, ?_, Bel.refl _ _⟩
          · simp [Builtin.append_, run_und ht, sizeOf, run_tinfo hi, Builtin.lenOf, Builtin.firstCells, storeCells]
            omega
          · exact .vslS (At.new hH.len hlx.2) hx1 hcx hx2
          · obtain ⟨o, hO⟩ := hH.objs
            refine (hH.kill rx).push (Nat.ne_of_gt hpos) ?_ (fun r k' l' hk' hl' => ?_) (hO.same (fun r k hk => noObj hk) fun r k hk => ⟨k, (noRow hk).2, id⟩) fun r k' l' hk' hl' => hO.row r rx k' kx l' lx (noObj hk') hkx hl' hlx (.inr hw)
            · refine BlkR.app _ (.ofRow (by rw [hbx.esz, hex]) (cur := cur) (ty := e) (fr := fr) (by rw [← hty]; exact hrow) ?_ fun _ => ?_)
              · have := hrx.take nx
                rw [hex, hfl] at this
                simp only [List.take_zero, List.append_nil]
                exact this.grow fun j v hj => by rw [List.getElem?_take] at hj; split at hj; · exact hj
                                                 · simp at hj
              · refine ⟨rfl, c1, c2, by rw [← hex]; exact c3, c4, c5, ?_⟩
                simp only [List.take_zero, List.append_nil, List.length_take]; omega
            · have hrr : r ≠ rx ∧ h.row r = some k' := noRow hk'
              exact (hH.sep rx r kx k' lx l' hkx hrr.2 hw (Ne.symm hrr.1) hlx hl').symm
        · obtain ⟨ρ', a', u', h', hs', w', ⟨rfl, rfl, rfl⟩, hr, ha, hH', hb⟩ := appendA_sound (P := P) (t := t) (ty := ty) (x := .slice rx 0 nx false) (y := .slice ry iy ny false) (hs := hs)
            (K := fun a h' hs' => a = .slice h.length 0 (nx + ny) false ∧ h' = h.set rx none ++ [some ⟨true, e, i.size, ky.flat, kx.elems.take nx ++ (ky.elems.drop iy).take ny⟩] ∧ hs' = hs) ht hi hz hzs hpos
            (by unfold appendA; simp [hkx, hky, hw, hty, hex, hey, need, hfl]; omega) hH (hx false) (hy false)
          exact ⟨ρ', _, u', _, _, w', hK, hr, vsl_of ha, hH', hb⟩
    · exact hK.elim
  · exact hK.elim

theorem appendW_sound {B : Gd} {ρ : List Loc} {h : Hp} {w : World} {t ty e : TypeId} {i : TypeInfo} {z : Value} {x y : AV} {u v : Value} {hs : List Hint} {K : AV → Hp → List Hint → Prop}
    (ht : P.underlying t = some (.slice e)) (hi : P.info? e = some i) (hz : i.zero = some z) (hzs : z.cells.size = i.size) (hpos : 0 < i.size)
    (hK : appendW h e i x y hs K) (hH : HpR B ρ h w) (hx : AVR ρ x u) (hy : AVR ρ y v) :
    ∃ ρ' a' u' h' hs' w', K a' h' hs' ∧ (Builtin.append_ #[t, t] ty #[u, v]).run P w = .ok u' w' ∧ AVR (ρ ++ ρ') a' u' ∧ HpR B (ρ ++ ρ') h' w' ∧ Bel B w w' := by
  unfold appendW at hK
  split at hK
  · rename_i r j n
    rcases vsl_inv hx with ⟨h0, rfl⟩ | hx'
    · cases hy
      refine ⟨[], _, _, _, _, w, hK, ?_, .vslN h0, by simpa using hH, Bel.refl _ _⟩
      simp [Builtin.append_, run_und ht, sizeOf, run_tinfo hi, Builtin.lenOf, Builtin.firstCells]
    · obtain ⟨ρ', a', u', h', hs', w', ⟨rfl, rfl, rfl⟩, hr, ha, hH', hb⟩ := appendA_sound (P := P) (t := t) (ty := ty) (x := .slice r j n true) (y := .lit (.slice none 0 0)) (hs := hs)
        (K := fun a h' hs' => a = .slice r j n true ∧ h' = h ∧ hs' = hs) ht hi hz hzs hpos (by unfold appendA; simp) hH (hx' true) hy
      exact ⟨ρ', _, u', _, _, w', hK, hr, vsl_of ha, hH', hb⟩
  · rename_i ry iy ny
    cases hx
    unfold appendN at hK
    split at hK
    · rename_i ky hky
      split at hK
      · rename_i hey
        obtain ⟨⟨g1, g2, g3⟩, hK⟩ := hK
        have hK : ∃ hs, K (.vsl h.length 0 ny) (h ++ [some ⟨true, e, i.size, ky.flat, (ky.elems.drop iy).take ny⟩]) hs := by
          split at hK
          · obtain ⟨rfl, hK⟩ := hK; exact ⟨_, hK⟩
          · exact ⟨_, hK⟩
        obtain ⟨hs, hK⟩ := hK
        obtain ⟨l, u', w', hr, ha, hH', hb⟩ := appendN_sound (P := P) (t := t) (ty := ty) ht hi hz hzs hpos hky (of_decide_eq_true hey) g1 g2 g3 hH hy
        exact ⟨[l], _, u', _, _, w', hK, hr, ha, hH', hb⟩
      · exact hK.elim
    · exact hK.elim
  · exact appendV_sound ht hi hz hzs hpos hK hH (vsl_of hx) hy
  · exact appendV_sound ht hi hz hzs hpos hK hH hx (vsl_of hy)
  · exact appendV_sound ht hi hz hzs hpos hK hH hx hy
  · exact appendA_sound ht hi hz hzs hpos hK hH hx hy

/-- A row that is written in place, whatever else the world has grown by. -/
theorem HpR.written {B : Gd} {ρ : List Loc} {h : Hp} {w w' : World} (hH : HpR B ρ h w) {r : Nat} {k k' : Blk} {l : Loc} (hk : h.row r = some k) (hl : At ρ r l) (hw : k.wr = true)
    (hs : w.heap.size ≤ w'.heap.size) (ho : ∀ j, j < w.heap.size → j ≠ l.b → w'.heap[j]? = w.heap[j]?) (e1 : w'.os = w.os) (e2 : w'.tape = w.tape) (e3 : w'.output = w.output) (e4 : w.drawn ≤ w'.drawn)
    (hk' : BlkR ρ B w' l k') (hz : k'.esz ≠ 0) : HpR B ρ (h.set r (some k')) w' ∧ Bel B w w' := by
  have hB : ¬ B l.b := by obtain ⟨_, _, _, _, _, h3⟩ := (hH.blk r k l hk hl).rowIs; exact (h3 hw).2.2.2.2.2.1
  have hrow : ∀ {r' k1}, Hp.row (h.set r (some k')) r' = some k1 → (r' = r ∧ k1 = k') ∨ (r' ≠ r ∧ h.row r' = some k1) := by
    intro r' k1 hk1
    rcases row_set hk1 with ⟨e, g⟩ | h
    · exact .inl ⟨e, (Option.some.inj g).symm⟩
    · exact .inr h
  have hbl : Bel B w w' := ⟨⟨e1, e2, e3, hs, fun j hj => ho j (hH.base _ hj) fun e => hB (e ▸ hj)⟩, fun _ => e4⟩
  refine ⟨⟨by simp [hH.len], hH.base.trans (bl_mono hs), fun r1 k1 l1 h1 hl1 => ?_, fun r1 r2 k1 k2 l1 l2 h1 h2 hw1 hne hl1 hl2 => ?_, hH.glob.below hbl, ?_⟩, hbl⟩
  rotate_left 2
  obtain ⟨o, hO⟩ := hH.objs
  refine ⟨o, (hO.change hs fun r' k1 l1 h1 hl1 b hb => ho b (hO.lt h1 hl1 b hb) fun e => hO.row r' r k1 k l1 l h1 hk hl1 hl (.inr hw) (e ▸ hb)).same (fun r' k1 h1 => ?_) fun r' k1 h1 => ?_⟩
  · rcases obj_set h1 with ⟨_, g⟩ | h
    · cases g; exact absurd (get_obj.1 h1).2 hz
    · exact h.2
  · rcases hrow h1 with ⟨rfl, _⟩ | ⟨_, h1⟩
    · exact ⟨k, hk, fun _ => hw⟩
    · exact ⟨k1, h1, id⟩
  · rcases hrow h1 with ⟨rfl, rfl⟩ | ⟨hne, h1⟩
    · rw [← hl.inj hl1]; exact hk'
    · have hb1 := hH.blk r1 k1 l1 h1 hl1
      exact hb1.same (ho _ hb1.lt (hH.sep r r1 k k1 l l1 hk h1 hw (Ne.symm hne) hl hl1).symm)
  · rcases hrow h1 with ⟨q1, f1⟩ | ⟨n1, g1⟩ <;> rcases hrow h2 with ⟨q2, f2⟩ | ⟨n2, g2⟩
    · exact absurd (q1.trans q2.symm) hne
    · subst q1; exact hH.sep _ r2 k k2 l1 l2 hk g2 hw hne hl1 hl2
    · subst q2
      have hw2 : k1.wr = true := hw1
      exact hH.sep r1 _ k1 k l1 l2 g1 hk hw2 hne hl1 hl2
    · exact hH.sep r1 r2 k1 k2 l1 l2 g1 g2 hw1 hne hl1 hl2

theorem set_row_self {h : Hp} {r : Nat} {k : Blk} (hk : h.row r = some k) : h.set r (some k) = h := by
  have hk := (get_row.1 hk).1
  apply List.ext_getElem?
  intro i
  by_cases e : r = i
  · subst e
    rw [List.getElem?_set_self', hk]
    rfl
  · rw [List.getElem?_set_ne e]

theorem nameR_iff {v : AV} {h : Hp} {hs : List Hint} {K : AV → Hp → List Hint → Prop} (hk : nameR v h hs K) : ∃ hs2, K v h hs2 := by
  unfold nameR at hk
  split at hk
  · split at hk
    · split at hk
      · rename_i hr
        obtain ⟨⟨he, hn⟩, hk⟩ := hk
        subst he
        subst hn
        rw [set_row_self hr] at hk
        exact ⟨_, hk⟩
      · exact hk.elim
    · exact ⟨_, hk⟩
  · exact ⟨_, hk⟩

theorem AV.sl_rel {ρ : List Loc} {x : AV} {v : Value} {r i n : Nat} {st : Bool} (he : x.sl = some (r, i, n, st)) (h : AVR ρ x v) : AVR ρ (.vsl r i n) v := by
  unfold AV.sl at he
  split at he
  · cases he; exact vsl_of h
  · cases he; exact h
  · cases he

/-- Nothing goes over. -/
theorem copy_zero {t t' ty e : TypeId} {i : TypeInfo} (ht : P.underlying t = some (.slice e)) (hi : P.info? e = some i) {d a : Option Addr} {nx cx ny cy : Nat} (h0 : Nat.min ny nx = 0) (w : World) :
    (Builtin.copy_ #[t, t'] ty #[.slice d nx cx, .slice a ny cy]).run P w = .ok (.int .i64 0) w := by
  have hl : ∀ x : Addr, (loadCells x 0).run P w = .ok #[] w := fun x => by simpa using run_loadCells_list (P := P) w x [] (by simp)
  cases d <;> cases a <;> simp [Builtin.copy_, run_und ht, run_tinfo hi, Builtin.lenOf, Builtin.firstCells, sizeOf, h0, storeCells, hl, goInt]

theorem slice_any {ρ : List Loc} {r i n : Nat} {v : Value} (h : AVR ρ (.vsl r i n) v) : ∃ a c, v = .slice a n c := by
  rcases vsl_inv h with ⟨rfl, rfl⟩ | h
  · exact ⟨_, _, rfl⟩
  · obtain ⟨_, _, _, _, _, _, _, rfl⟩ := slice_inv (h true)
    exact ⟨_, _, rfl⟩

theorem copy_sound {B : Gd} {ρ : List Loc} {h : Hp} {w : World} {t t' ty e : TypeId} {i : TypeInfo} {u v : Value} {rx ix nx ry iy ny n : Nat} {kx ky : Blk}
    (ht : P.underlying t = some (.slice e)) (hi : P.info? e = some i) (hpos : 0 < i.size) (hkx : h.row rx = some kx) (hky : h.row ry = some ky) (hw : kx.wr = true) (hf : kx.flat = true → ky.flat = true) (hex : kx.esz = i.size) (hey : ky.esz = i.size)
    (hn : n = min ny nx) (b1 : ix + nx ≤ kx.elems.length) (b2 : iy + ny ≤ ky.elems.length) (hH : HpR B ρ h w) (hx : AVR ρ (.vsl rx ix nx) u) (hy : AVR ρ (.vsl ry iy ny) v) :
    ∃ w', (Builtin.copy_ #[t, t'] ty #[u, v]).run P w = .ok (.int .i64 n) w' ∧ HpR B ρ (h.set rx (some { kx with elems := kx.elems.take ix ++ (ky.elems.drop iy).take n ++ kx.elems.drop (ix + n) })) w' ∧ Bel B w w' := by
  have none' : n = 0 → ∃ w', (Builtin.copy_ #[t, t'] ty #[u, v]).run P w = .ok (.int .i64 n) w' ∧ HpR B ρ (h.set rx (some { kx with elems := kx.elems.take ix ++ (ky.elems.drop iy).take n ++ kx.elems.drop (ix + n) })) w' ∧ Bel B w w' := by
    rintro rfl
    obtain ⟨a, c, rfl⟩ := slice_any hx
    obtain ⟨a', c', rfl⟩ := slice_any hy
    refine ⟨w, copy_zero ht hi hn.symm w, ?_, Bel.refl _ _⟩
    rw [List.take_zero, List.append_nil, Nat.add_zero, List.take_append_drop, set_row_self hkx]
    exact hH
  by_cases h0 : n = 0
  · exact none' h0
  rcases vsl_inv hx with ⟨h1, _⟩ | hx
  · exact none' (by omega)
  rcases vsl_inv hy with ⟨h1, _⟩ | hy
  · exact none' (by omega)
  obtain ⟨ly, ad, c, news, hly, rfl, hlen, hri, hcell, hone⟩ := slice_vals hH (hy true) hky b2 (by omega)
  obtain ⟨lx, ax, cx, hlx, hx1, hcx, hx2, rfl⟩ := slice_inv (hx true)
  have hbx := hH.blk rx kx lx hkx hlx
  obtain ⟨cur, ty0, fr, hrow, hrx, hcapx⟩ := hbx.rowIs
  obtain ⟨rfl, rfl, hoff, hcs, hcm, hB, hle⟩ := hcapx hw
  rw [hoff, List.drop_zero] at hrx
  rw [hex] at hrx hcs
  rw [hey] at hlen hri
  have hnx : n ≤ nx := by omega
  have hny : n ≤ ny := by omega
  have hax : ax = ⟨lx.b, ix * i.size, none⟩ := by rw [hx2 (by omega), hoff, hbx.esz, hex, Nat.zero_add]
  subst hax
  have hcl : (news.take (n * i.size)).length = n * i.size := by
    have : n * i.size ≤ ny * i.size := Nat.mul_le_mul_right _ hny
    rw [List.length_take]; omega
  have hle2 := hrx.len
  have hixn : ix * i.size + n * i.size ≤ cur.size := by
    have : (ix + n) * i.size ≤ kx.elems.length * i.size := Nat.mul_le_mul_right _ (by omega)
    rw [Nat.add_mul] at this
    rw [Array.length_toList] at hle2
    omega
  have hl := run_loadCells_list (P := P) w ad (news.take (n * i.size)) (fun j u hj => hcell j u (by
    rw [List.getElem?_take] at hj
    split at hj
    · exact hj
    · cases hj))
  have hst := run_storeCells_at P lx.b (ix * i.size) kx.ty (news.take (n * i.size)) 0 cur w hrow (by rw [hcl]; omega) (fun u hu => hone u (List.mem_of_mem_take hu))
  rw [hcl] at hl
  simp only [Nat.add_zero] at hst
  generalize harr : (cur.toList.take (ix * i.size) ++ news.take (n * i.size) ++ cur.toList.drop (ix * i.size + (news.take (n * i.size)).length)) = arr at hst
  have hal : arr.length = cur.size := by rw [← harr]; simp only [List.length_append, List.length_drop, List.length_take, Array.length_toList]; rw [List.length_take] at hcl; omega
  have hrow' := setRow_heap w lx.b cur arr.toArray _ _ hrow
  have htk : (cur.toList.take (ix * i.size)).length = ix * i.size := by rw [List.length_take, Array.length_toList]; omega
  have hes : (kx.elems.take ix ++ (ky.elems.drop iy).take n ++ kx.elems.drop (ix + n)).length = kx.elems.length := by simp only [List.length_append, List.length_drop, List.length_take]; omega
  have hri2 : RowIs ρ kx.flat i.size (kx.elems.take ix ++ (ky.elems.drop iy).take n ++ kx.elems.drop (ix + n)) arr := by
    rw [← harr]
    have e1 : ((ky.elems.drop iy).take ny).take n = (ky.elems.drop iy).take n := by rw [List.take_take, Nat.min_eq_left hny]
    have a2 := hri.take n
    rw [e1] at a2
    refine ((hrx.take ix).append (a2.weaken hf) (by rw [htk, List.length_take]; congr 1; omega)).append ?_ (by simp only [List.length_append, htk, hcl, List.length_take, List.length_drop, ← Nat.add_mul]; congr 1; omega)
    rw [hcl, ← Nat.add_mul]
    exact hrx.drop (ix + n)
  refine ⟨w.setRow lx.b arr.toArray, ?_, hH.written hkx hlx hw (by rw [size_setRow]; exact Nat.le_refl _) (fun j _ hj => setRow_other w lx.b j _ hj) rfl rfl rfl (Nat.le_refl _) (.ofRow (by rw [hbx.esz]) (cur := arr.toArray) hrow' (by
      rw [hoff, List.drop_zero]; show RowIs ρ kx.flat kx.esz _ _; rw [hex]; exact hri2) fun _ => ⟨rfl, rfl, hoff, by rw [List.size_toArray, hal]; show _ = lx.cap * kx.esz; rw [hex]; exact hcs, hcm, hB, by show List.length _ ≤ _; rw [hes]; exact hle⟩) (by show kx.esz ≠ 0; omega)⟩
  have hmin : Nat.min ny nx = n := hn.symm
  simp [Builtin.copy_, run_und ht, run_tinfo hi, Builtin.lenOf, Builtin.firstCells, sizeOf, hmin, hl, hst, goInt]

theorem copyA_sound {B : Gd} {ρ : List Loc} {h : Hp} {w : World} {t t' ty e : TypeId} {i : TypeInfo} {x y : AV} {u v : Value} {hs : List Hint} {K : AV → Hp → List Hint → Prop}
    (ht : P.underlying t = some (.slice e)) (hi : P.info? e = some i) (hpos : 0 < i.size) (hK : copyA h i x y hs K) (hH : HpR B ρ h w) (hx : AVR ρ x u) (hy : AVR ρ y v) :
    ∃ a' u' h' hs' w', K a' h' hs' ∧ (Builtin.copy_ #[t, t'] ty #[u, v]).run P w = .ok u' w' ∧ AVR ρ a' u' ∧ HpR B ρ h' w' ∧ Bel B w w' := by
  unfold copyA at hK
  split at hK
  · cases hx; cases hy
    exact ⟨_, _, _, _, w, hK, copy_zero ht hi rfl w, .lit _, hH, Bel.refl _ _⟩
  · cases hx
    split at hK
    · rename_i he
      obtain ⟨a, c, rfl⟩ := slice_any (AV.sl_rel he hy)
      exact ⟨_, _, _, _, w, hK, copy_zero ht hi (Nat.min_zero _) w, .lit _, hH, Bel.refl _ _⟩
    · exact hK.elim
  · cases hy
    split at hK
    · rename_i he
      obtain ⟨a, c, rfl⟩ := slice_any (AV.sl_rel he hx)
      exact ⟨_, _, _, _, w, hK, copy_zero ht hi (Nat.zero_min _) w, .lit _, hH, Bel.refl _ _⟩
    · exact hK.elim
  · split at hK
    · rename_i rx ix nx sx ry iy ny sy he1 he2
      have hx := AV.sl_rel he1 hx
      have hy := AV.sl_rel he2 hy
      unfold copyR at hK
      split at hK
      · rename_i kx ky hkx hky
        split at hK
        · rename_i hc
          simp only [Bool.and_eq_true, Bool.or_eq_true, Bool.not_eq_true', decide_eq_true_eq] at hc
          obtain ⟨⟨hw, hf⟩, hex, hey⟩ := hc
          have hf : kx.flat = true → ky.flat = true := fun h => hf.resolve_left (by rw [h]; decide)
          split at hK
          · obtain ⟨⟨hn, b1, b2⟩, hK⟩ := hK
            obtain ⟨w', hr, hH', hb⟩ := copy_sound (P := P) (t := t) (t' := t') (ty := ty) ht hi hpos hkx hky hw hf hex hey hn b1 b2 hH hx hy
            split at hK
            · obtain ⟨he, hK⟩ := hK
              subst he
              exact ⟨_, _, _, _, w', hK, hr, .int _ _, hH', hb⟩
            · exact ⟨_, _, _, _, w', hK, hr, .int _ _, hH', hb⟩
          · obtain ⟨⟨b1, b2⟩, hK⟩ := need_iff hK
            obtain ⟨w', hr, hH', hb⟩ := copy_sound (P := P) (t := t) (t' := t') (ty := ty) ht hi hpos hkx hky hw hf hex hey rfl b1 b2 hH hx hy
            exact ⟨_, _, _, _, w', hK, hr, mkInt_rel _ _ _, hH', hb⟩
        · exact hK.elim
      · exact hK.elim
    · exact hK.elim

theorem clear_sound {B : Gd} {ρ : List Loc} {h : Hp} {w : World} {t ty e : TypeId} {i : TypeInfo} {zv u : Value} {r j n : Nat} {k : Blk}
    (ht : P.underlying t = some (.slice e)) (hi : P.info? e = some i) (hzv : i.zero = some zv) (hzs : zv.cells.size = i.size) (hpos : 0 < i.size) (hk : h.row r = some k) (hw : k.wr = true) (hso : (canon (liftV zv)).sound = true) (hf : k.flat = true → (canon (liftV zv)).plain = true) (hez : k.esz = i.size)
    (b1 : j + n ≤ k.elems.length) (hH : HpR B ρ h w) (hx : AVR ρ (.vsl r j n) u) :
    ∃ w', (Builtin.clear_ #[t] ty #[u]).run P w = .ok (.tuple #[]) w' ∧ HpR B ρ (h.set r (some { k with elems := k.elems.take j ++ List.replicate n (canon (liftV zv)) ++ k.elems.drop (j + n) })) w' ∧ Bel B w w' := by
  have same : n = 0 → HpR B ρ (h.set r (some { k with elems := k.elems.take j ++ List.replicate n (canon (liftV zv)) ++ k.elems.drop (j + n) })) w := by
    rintro rfl
    rw [List.replicate_zero, List.append_nil, Nat.add_zero, List.take_append_drop, set_row_self hk]
    exact hH
  rcases vsl_inv hx with ⟨h1, rfl⟩ | hx
  · exact ⟨w, by simp [Builtin.clear_, run_und ht], same h1, Bel.refl _ _⟩
  obtain ⟨lx, ax, cx, hlx, hx1, hcx, hx2, rfl⟩ := slice_inv (hx true)
  by_cases h0 : n = 0
  · subst h0
    exact ⟨w, by simp [Builtin.clear_, run_und ht], same rfl, Bel.refl _ _⟩
  have hbx := hH.blk r k lx hk hlx
  obtain ⟨cur, ty0, fr, hrow, hrx, hcapx⟩ := hbx.rowIs
  obtain ⟨rfl, rfl, hoff, hcs, hcm, hB, hle⟩ := hcapx hw
  rw [hoff, List.drop_zero] at hrx
  rw [hez] at hrx hcs
  have hax : ax = ⟨lx.b, j * i.size, none⟩ := by rw [hx2 (by omega), hoff, hbx.esz, hez, Nat.zero_add]
  subst hax
  have hzr := rowIs_replicate (ρ := ρ) (z := zv) (e := canon (liftV zv)) (fun _ => canon_rel (.liftV zv)) hso hzs hpos (Nat.le_refl n)
  have hone : ∀ u ∈ (madeCells zv.cells (n * i.size)).toList, u.oneCell' = true := by
    intro u hu
    have hcell : ∀ c ∈ (canon (liftV zv)).cells, ∀ v, AVR ρ c v → v.oneCell' = true := fun c hc v hv => AVR.one (AV.sound_cells hso c hc) hv
    obtain ⟨q, hq⟩ := List.getElem?_of_mem hu
    have hql : q < n * i.size := by have := (List.getElem?_eq_some_iff.1 hq).1; simpa [size_madeCells] using this
    have hdm := Nat.div_add_mod q i.size
    have hdn : q / i.size < n := Nat.div_lt_of_lt_mul (by rw [Nat.mul_comm]; exact hql)
    obtain ⟨g1, g2, g3⟩ := hzr (q / i.size) (canon (liftV zv)) (by rw [List.getElem?_replicate, if_pos hdn])
    have hlt : q % i.size < (canon (liftV zv)).cells.length := by rw [g1]; exact Nat.mod_lt _ hpos
    obtain ⟨v, hv, hr⟩ := g3 (q % i.size) ((canon (liftV zv)).cells[q % i.size]) (List.getElem?_eq_getElem hlt)
    rw [Nat.mul_comm (q / i.size), hdm, hq] at hv
    cases hv
    refine hcell _ (List.getElem_mem hlt) u ?_
    split at hr
    · exact hr.of_nil
    · exact hr
  generalize hzl : (madeCells zv.cells (n * i.size)).toList = zs at hzr hone
  have hcl : zs.length = n * i.size := by rw [← hzl]; simp [size_madeCells]
  have hle2 := hrx.len
  have hixn : j * i.size + n * i.size ≤ cur.size := by
    have : (j + n) * i.size ≤ k.elems.length * i.size := Nat.mul_le_mul_right _ (by omega)
    rw [Nat.add_mul] at this
    rw [Array.length_toList] at hle2
    omega
  have hst := run_storeCells_at P lx.b (j * i.size) k.ty zs 0 cur w hrow (by rw [hcl]; omega) hone
  simp only [Nat.add_zero] at hst
  generalize harr : (cur.toList.take (j * i.size) ++ zs ++ cur.toList.drop (j * i.size + zs.length)) = arr at hst
  have hal : arr.length = cur.size := by rw [← harr]; simp only [List.length_append, List.length_drop, List.length_take, Array.length_toList]; omega
  have hrow' := setRow_heap w lx.b cur arr.toArray _ _ hrow
  have htk : (cur.toList.take (j * i.size)).length = j * i.size := by rw [List.length_take, Array.length_toList]; omega
  have hes : (k.elems.take j ++ List.replicate n (canon (liftV zv)) ++ k.elems.drop (j + n)).length = k.elems.length := by simp only [List.length_append, List.length_drop, List.length_take, List.length_replicate]; omega
  have hri2 : RowIs ρ k.flat i.size (k.elems.take j ++ List.replicate n (canon (liftV zv)) ++ k.elems.drop (j + n)) arr := by
    rw [← harr]
    refine ((hrx.take j).append (hzr.weaken hf) (by rw [htk, List.length_take]; congr 1; omega)).append ?_ (by simp only [List.length_append, htk, hcl, List.length_take, List.length_replicate, ← Nat.add_mul]; congr 1; omega)
    rw [hcl, ← Nat.add_mul]
    exact hrx.drop (j + n)
  refine ⟨w.setRow lx.b arr.toArray, ?_, hH.written hk hlx hw (by rw [size_setRow]; exact Nat.le_refl _) (fun j _ hj => setRow_other w lx.b j _ hj) rfl rfl rfl (Nat.le_refl _) (.ofRow (by rw [hbx.esz]) (cur := arr.toArray) hrow' (by
      rw [hoff, List.drop_zero]; show RowIs ρ k.flat k.esz _ _; rw [hez]; exact hri2) fun _ => ⟨rfl, rfl, hoff, by rw [List.size_toArray, hal]; show _ = lx.cap * k.esz; rw [hez]; exact hcs, hcm, hB, by show List.length _ ≤ _; rw [hes]; exact hle⟩) (by show k.esz ≠ 0; omega)⟩
  obtain ⟨m, rfl⟩ : ∃ m, n = m + 1 := ⟨n - 1, by omega⟩
  have hzc : (Builtin.zeroCells zv.cells (m + 1)).toList = zs := by rw [← hzl, ← hzs]; rfl
  simp [Builtin.clear_, run_und ht, run_zero hi hzv, hzc, hst]

theorem clearA_sound {B : Gd} {ρ : List Loc} {h : Hp} {w : World} {t ty e : TypeId} {i : TypeInfo} {z x : AV} {u : Value} {hs : List Hint} {K : AV → Hp → List Hint → Prop}
    (ht : P.underlying t = some (.slice e)) (hi : P.info? e = some i) (hz : zeroOf P e = some z) (hpos : 0 < i.size) (hK : clearA h i z x hs K) (hH : HpR B ρ h w) (hx : AVR ρ x u) :
    ∃ h' hs' w', K (.lit (.tuple #[])) h' hs' ∧ (Builtin.clear_ #[t] ty #[u]).run P w = .ok (.tuple #[]) w' ∧ HpR B ρ h' w' ∧ Bel B w w' := by
  obtain ⟨i', zv, hi', hzv, hzs, rfl⟩ := zeroOf_info hz
  rw [hi] at hi'; cases hi'
  unfold clearA at hK
  split at hK
  · rename_i r j n st he
    split at hK
    · rename_i k hk
      split at hK
      · rename_i es hs' hc
        simp only [Bool.and_eq_true, Bool.or_eq_true, Bool.not_eq_true', decide_eq_true_eq] at hc
        obtain ⟨⟨⟨hw, hso⟩, hf⟩, hez⟩ := hc
        obtain ⟨⟨b1, he2⟩, hK⟩ := hK
        subst he2
        obtain ⟨w', hr, hH', hb⟩ := clear_sound (P := P) (ty := ty) ht hi hzv hzs hpos hk hw hso (fun h => hf.resolve_left (by rw [h]; decide)) hez b1 hH (AV.sl_rel he hx)
        exact ⟨_, _, w', hK, hr, hH', hb⟩
      · exact hK.elim
    · exact hK.elim
  · split at hK
    · cases hx
      exact ⟨_, _, w, hK, by simp [Builtin.clear_, run_und ht], hH, Bel.refl _ _⟩
    · exact hK.elim

end
end Go.Sx
