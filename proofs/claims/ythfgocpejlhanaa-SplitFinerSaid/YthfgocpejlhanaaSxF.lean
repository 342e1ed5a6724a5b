/-
  The calculus (SxA): rows of memory that are made, written, and appended to.
-/
import Derived.Test.YthfgocpejlhanaaSxE
namespace Go.Sx
open Go.RowKit

/-- The cells of elements, one element behind the other. -/
def RowIs (ρ : List Loc) (flat : Bool) (esz : Nat) (elems : List AV) (arr : List Value) : Prop :=
  ∀ (i : Nat) e, elems[i]? = some e → e.cells.length = esz ∧ e.sound = true ∧ ∀ (o : Nat) c, e.cells[o]? = some c → ∃ v, arr[i * esz + o]? = some v ∧ AVR (if flat then [] else ρ) c v

theorem RowIs.weaken {ρ : List Loc} {f g : Bool} {esz : Nat} {elems : List AV} {arr : List Value} (h : RowIs ρ f esz elems arr) (hg : g = true → f = true) : RowIs ρ g esz elems arr := by
  intro i e he
  obtain ⟨h1, h2, h3⟩ := h i e he
  refine ⟨h1, h2, fun o c hc => ?_⟩
  obtain ⟨v, hv, hr⟩ := h3 o c hc
  refine ⟨v, hv, ?_⟩
  cases g
  · cases f
    · exact hr
    · exact AVR.of_nil (by simpa using hr)
  · simpa [hg rfl] using hr

theorem RowIs.app {ρ : List Loc} {f : Bool} {esz : Nat} {elems : List AV} {arr : List Value} (ρ' : List Loc) (h : RowIs ρ f esz elems arr) : RowIs (ρ ++ ρ') f esz elems arr := by
  intro i e he
  obtain ⟨h1, h2, h3⟩ := h i e he
  refine ⟨h1, h2, fun o c hc => ?_⟩
  obtain ⟨v, hv, hr⟩ := h3 o c hc
  refine ⟨v, hv, ?_⟩
  cases f
  · exact AVR.app ρ' (by simpa using hr)
  · simpa using hr

theorem RowIs.len {ρ : List Loc} {f : Bool} {esz : Nat} {elems : List AV} {arr : List Value} (h : RowIs ρ f esz elems arr) : elems.length * esz ≤ arr.length := by
  rcases Nat.eq_zero_or_pos esz with hz | hz
  · simp [hz]
  rcases Nat.eq_zero_or_pos elems.length with h0 | h0
  · simp [h0]
  · obtain ⟨n, hn⟩ : ∃ n, elems.length = n + 1 := ⟨elems.length - 1, by omega⟩
    obtain ⟨hl, _, hc⟩ := h n elems[n] (List.getElem?_eq_getElem (by omega))
    obtain ⟨v, hv, _⟩ := hc (esz - 1) _ (List.getElem?_eq_getElem (by omega))
    have := (List.getElem?_eq_some_iff.1 hv).1
    rw [hn, Nat.add_mul]
    omega

theorem RowIs.take {ρ : List Loc} {f : Bool} {esz : Nat} {elems : List AV} {arr : List Value} (h : RowIs ρ f esz elems arr) (n : Nat) : RowIs ρ f esz (elems.take n) (arr.take (n * esz)) := by
  intro i e he
  rw [List.getElem?_take] at he
  split at he
  · rename_i hi
    obtain ⟨h1, h2, h3⟩ := h i e he
    refine ⟨h1, h2, fun o c hc => ?_⟩
    obtain ⟨v, hv, hr⟩ := h3 o c hc
    refine ⟨v, ?_, hr⟩
    have ho : o < esz := h1 ▸ (List.getElem?_eq_some_iff.1 hc).1
    rw [List.getElem?_take, if_pos, hv]
    calc i * esz + o < i * esz + esz := by omega
      _ = (i + 1) * esz := by rw [Nat.add_mul]; omega
      _ ≤ n * esz := Nat.mul_le_mul_right _ (by omega)
  · simp at he

theorem RowIs.drop {ρ : List Loc} {f : Bool} {esz : Nat} {elems : List AV} {arr : List Value} (h : RowIs ρ f esz elems arr) (n : Nat) : RowIs ρ f esz (elems.drop n) (arr.drop (n * esz)) := by
  intro i e he
  rw [List.getElem?_drop] at he
  obtain ⟨h1, h2, h3⟩ := h _ e he
  refine ⟨h1, h2, fun o c hc => ?_⟩
  obtain ⟨v, hv, hr⟩ := h3 o c hc
  refine ⟨v, ?_, hr⟩
  rw [List.getElem?_drop, ← hv, Nat.add_mul, Nat.add_assoc]

theorem RowIs.grow {ρ : List Loc} {f : Bool} {esz : Nat} {elems : List AV} {arr arr' : List Value} (h : RowIs ρ f esz elems arr) (hp : ∀ (j : Nat) v, arr[j]? = some v → arr'[j]? = some v) : RowIs ρ f esz elems arr' := by
  intro i e he
  obtain ⟨h1, h2, h3⟩ := h i e he
  exact ⟨h1, h2, fun o c hc => let ⟨v, hv, hr⟩ := h3 o c hc; ⟨v, hp _ _ hv, hr⟩⟩

theorem RowIs.append {ρ : List Loc} {f : Bool} {esz : Nat} {xs ys : List AV} {as bs : List Value} (h : RowIs ρ f esz xs as) (h' : RowIs ρ f esz ys bs) (hl : as.length = xs.length * esz) : RowIs ρ f esz (xs ++ ys) (as ++ bs) := by
  intro i e he
  by_cases hi : i < xs.length
  · rw [List.getElem?_append_left hi] at he
    obtain ⟨h1, h2, h3⟩ := h i e he
    refine ⟨h1, h2, fun o c hc => ?_⟩
    obtain ⟨v, hv, hr⟩ := h3 o c hc
    exact ⟨v, by rw [List.getElem?_append_left (List.getElem?_eq_some_iff.1 hv).1]; exact hv, hr⟩
  · rw [List.getElem?_append_right (by omega)] at he
    obtain ⟨h1, h2, h3⟩ := h' _ e he
    refine ⟨h1, h2, fun o c hc => ?_⟩
    obtain ⟨v, hv, hr⟩ := h3 o c hc
    refine ⟨v, ?_, hr⟩
    have e1 : i * esz = xs.length * esz + (i - xs.length) * esz := by rw [← Nat.add_mul]; congr 1; omega
    rw [List.getElem?_append_right (by omega), hl, ← hv]
    congr 1
    omega

theorem RowIs.nil {ρ : List Loc} {f : Bool} {esz : Nat} {arr : List Value} : RowIs ρ f esz [] arr := by intro i e he; simp at he

theorem plain1_func {fn : Fn} {a b : List AV} (h : (AV.func fn a b).plain1 = true) : ∃ g, fn = .func g ∧ a = [] ∧ b = [] := by
  cases fn with
  | func g =>
    cases a with
    | nil =>
      cases b with
      | nil => exact ⟨g, rfl, rfl, rfl⟩
      | cons => cases h
    | cons => cases h
  | _ => cases h

theorem AVR.plain0 {ρ : List Loc} {x : AV} {v : Value} (hp : x.plain1 = true) (h : AVR ρ x v) : AVR [] x v := by
  cases x with
  | lit v => cases h; exact .lit _
  | int k n => cases h; exact .int _ _
  | w64 x => cases h; exact .w64 _
  | bool b => cases h; exact .bool _
  | val v => cases h; exact .val _
  | func fn a b =>
    obtain ⟨g, rfl, rfl, rfl⟩ := plain1_func hp
    cases h with
    | func h1 h2 => cases h1; cases h2; exact .func .nil .nil
  | _ => cases hp

/-- One element. -/
theorem RowIs.one {ρ : List Loc} {f : Bool} {x : AV} {v : Value} (hs : x.sound = true) (hr : AVR ρ x v) (hf : f = true → x.plain = true) : RowIs ρ f x.cells.length [x] v.cells.toList := by
  intro i e he
  cases i with
  | succ i => simp at he
  | zero =>
    simp at he; subst he
    refine ⟨rfl, hs, fun o c hc => ?_⟩
    obtain ⟨u, hu, hcu⟩ := (AVR.cells hs hr).get hc
    refine ⟨u, by simpa using hu, ?_⟩
    cases f
    · exact hcu
    · have hp := hf rfl
      have hall : ∀ c ∈ x.cells, c.plain1 = true := by
        intro c hc
        cases x <;> simp_all [AV.plain, AV.cells]
      have hc1 := hall c (List.mem_of_getElem? hc)
      exact AVR.plain0 hc1 hcu

theorem BlkR.rowIs {ρ : List Loc} {B : Gd} {w : World} {l : Loc} {k : Blk} (h : BlkR ρ B w l k) : ∃ cur ty fr, w.heap[l.b]? = some (.cells cur ty fr) ∧ RowIs ρ k.flat k.esz k.elems (cur.toList.drop l.off) ∧
    (k.wr = true → ty = k.ty ∧ fr = (0, 0) ∧ l.off = 0 ∧ cur.size = l.cap * k.esz ∧ l.cap ≤ maxLen ∧ ¬ B l.b ∧ k.elems.length ≤ l.cap) := by
  obtain ⟨_, cur, ty, fr, h1, h2, h3⟩ := h
  refine ⟨cur, ty, fr, h1, fun i e he => ?_, h3⟩
  obtain ⟨g1, g2, g3⟩ := h2 i e he
  refine ⟨g1, g2, fun o c hc => ?_⟩
  obtain ⟨v, hv, hr⟩ := g3 o c hc
  exact ⟨v, by rw [List.getElem?_drop]; simpa [Nat.add_assoc] using hv, hr⟩

theorem BlkR.ofRow {ρ : List Loc} {B : Gd} {w : World} {l : Loc} {k : Blk} (he : l.esz = k.esz) {cur : Array Value} {ty : TypeId} {fr : Nat × Nat} (h1 : w.heap[l.b]? = some (.cells cur ty fr)) (h2 : RowIs ρ k.flat k.esz k.elems (cur.toList.drop l.off))
    (h3 : k.wr = true → ty = k.ty ∧ fr = (0, 0) ∧ l.off = 0 ∧ cur.size = l.cap * k.esz ∧ l.cap ≤ maxLen ∧ ¬ B l.b ∧ k.elems.length ≤ l.cap) : BlkR ρ B w l k := by
  refine ⟨he, cur, ty, fr, h1, fun i e hi => ?_, h3⟩
  obtain ⟨g1, g2, g3⟩ := h2 i e hi
  refine ⟨g1, g2, fun o c hc => ?_⟩
  obtain ⟨v, hv, hr⟩ := g3 o c hc
  exact ⟨v, by rw [List.getElem?_drop] at hv; simpa [Nat.add_assoc] using hv, hr⟩

theorem BlkR.app {ρ : List Loc} {B : Gd} {w : World} {l : Loc} {k : Blk} (ρ' : List Loc) (h : BlkR ρ B w l k) : BlkR (ρ ++ ρ') B w l k := by
  obtain ⟨cur, ty, fr, h1, h2, h3⟩ := h.rowIs
  exact .ofRow h.esz h1 (h2.app ρ') h3

theorem BlkR.same {ρ : List Loc} {B : Gd} {w w' : World} {l : Loc} {k : Blk} (h : BlkR ρ B w l k) (hs : w'.heap[l.b]? = w.heap[l.b]?) : BlkR ρ B w' l k := by
  obtain ⟨cur, ty, fr, h1, h2, h3⟩ := h.rowIs
  exact .ofRow h.esz (hs.trans h1) h2 h3

theorem BlkR.lt {ρ : List Loc} {B : Gd} {w : World} {l : Loc} {k : Blk} (h : BlkR ρ B w l k) : l.b < w.heap.size := by
  obtain ⟨cur, ty, fr, h1, _⟩ := h.rowIs
  exact (Array.getElem?_eq_some_iff.1 h1).1

theorem BlkR.gd {ρ : List Loc} {B B' : Gd} {w : World} {l : Loc} {k : Blk} (h : BlkR ρ B w l k) (hB : k.wr = true → ¬ B' l.b) : BlkR ρ B' w l k := by
  obtain ⟨cur, ty, fr, h1, h2, h3⟩ := h.rowIs
  refine .ofRow h.esz h1 h2 fun hw => ?_
  obtain ⟨q0, q1, q2, q3, q4, q5, q6⟩ := h3 hw
  exact ⟨q0, q1, q2, q3, q4, hB hw, q6⟩

theorem get_row {h : Hp} {r : Nat} {k : Blk} : h.row r = some k ↔ h[r]? = some (some k) ∧ k.esz ≠ 0 := by
  unfold Hp.row
  split
  · rename_i k' hk
    rw [hk]
    split
    · rename_i h0; simp; rintro rfl; exact h0
    · rename_i n h0; simp; rintro rfl; omega
  · rename_i hn
    simp
    intro h'
    exact absurd h' (hn k)

theorem get_obj {h : Hp} {r : Nat} {k : Blk} : h.obj r = some k ↔ h[r]? = some (some k) ∧ k.esz = 0 := by
  unfold Hp.obj
  split
  · rename_i k' hk
    rw [hk]
    split
    · rename_i h0; simp; rintro rfl; exact h0
    · rename_i n h0; simp; rintro rfl; omega
  · rename_i hn
    simp
    intro h'
    exact absurd h' (hn k)

theorem row_lt {h : Hp} {r : Nat} {k : Blk} (hk : h.row r = some k) : r < h.length := (List.getElem?_eq_some_iff.1 (get_row.1 hk).1).1
theorem obj_lt {h : Hp} {r : Nat} {k : Blk} (hk : h.obj r = some k) : r < h.length := (List.getElem?_eq_some_iff.1 (get_obj.1 hk).1).1
theorem row_ne_obj {h : Hp} {r : Nat} {k k' : Blk} (hk : h.row r = some k) (hk' : h.obj r = some k') : False := by
  have a := get_row.1 hk
  have b := get_obj.1 hk'
  rw [a.1] at b
  have e : k = k' := by simpa using b.1
  subst e
  exact a.2 b.2

theorem get_set {h : Hp} {r r' : Nat} {x : Option Blk} {k : Blk} (hg : (h.set r x)[r']? = some (some k)) : (r' = r ∧ x = some k) ∨ (r' ≠ r ∧ h[r']? = some (some k)) := by
  by_cases e : r = r'
  · subst e
    rw [List.getElem?_set_self'] at hg
    cases hh : h[r]? <;> simp [hh] at hg
    exact .inl ⟨rfl, hg⟩
  · rw [List.getElem?_set_ne e] at hg; exact .inr ⟨fun e' => e e'.symm, hg⟩

theorem row_set {h : Hp} {r r' : Nat} {x : Option Blk} {k : Blk} (hk : Hp.row (h.set r x) r' = some k) : (r' = r ∧ x = some k) ∨ (r' ≠ r ∧ h.row r' = some k) := by
  obtain ⟨h1, h2⟩ := get_row.1 hk
  rcases get_set h1 with h | ⟨h, h3⟩
  · exact .inl h
  · exact .inr ⟨h, get_row.2 ⟨h3, h2⟩⟩

theorem obj_set {h : Hp} {r r' : Nat} {x : Option Blk} {k : Blk} (hk : Hp.obj (h.set r x) r' = some k) : (r' = r ∧ x = some k) ∨ (r' ≠ r ∧ h.obj r' = some k) := by
  obtain ⟨h1, h2⟩ := get_obj.1 hk
  rcases get_set h1 with h | ⟨h, h3⟩
  · exact .inl h
  · exact .inr ⟨h, get_obj.2 ⟨h3, h2⟩⟩

theorem FrzS.frame {own : List Nat} {w w' : World} {e : AV} (h : FrzS own w e) (hb : ∀ b ∈ own, w'.heap[b]? = w.heap[b]?) : FrzS own w' e := by
  obtain ⟨u, z, es, rfl, hz, h⟩ := h
  refine ⟨u, z, es, rfl, hz, h.imp id ?_⟩
  rintro ⟨l, a, c, h1, h2, h3, h4, h5, h6, h7⟩
  exact ⟨l, a, c, h1, h2, h3, h4, h5, h6, h7.same (hb _ h6)⟩

theorem ObjR.frame {ty : TypeId} {es : List AV} {b : Nat} {own : List Nat} {w : World} (h : ObjR ty es b own w) : ∀ w', w.heap.size ≤ w'.heap.size → (∀ b ∈ own, w'.heap[b]? = w.heap[b]?) → ObjR ty es b own w' := by
  induction h with
  | mk h ρ o hr hl hrow hwr hat _ hsep hown hhd ih =>
    intro w' hs hb
    refine .mk h ρ o hr hl (fun r k l hk ha => ⟨(hrow r k l hk ha).1, (hrow r k l hk ha).2.same (hb _ (hown r l.b ⟨l, ha, .inl ⟨k, hk, rfl⟩⟩).1)⟩) hwr hat (fun r k l hk ha => ih r k l hk ha w' hs fun b' hb' => hb b' (hown r b' ⟨l, ha, .inr ⟨k, hk, hb'⟩⟩).1) hsep (fun r b' ho => ⟨(hown r b' ho).1, Nat.lt_of_lt_of_le (hown r b' ho).2 hs⟩) hhd
  | raw m hm hR =>
    intro w' _ hb
    exact .raw m hm ⟨hR.nd, fun x hx => let ⟨a, cur, c, d⟩ := hR.is x hx; ⟨a, cur, (hb _ a).trans c, d⟩, hR.hd⟩
  | ext h =>
    intro w' hs hb
    exact .ext (ext_frame h hs hb)
  | frz h1 h2 =>
    intro w' _ hb
    exact .frz (fun e he => (h1 e he).frame hb) fun x hx => let ⟨cur, ty, fr, e⟩ := h2 x hx; ⟨cur, ty, fr, (hb x hx).trans e⟩

theorem ObjsO.lt {o : Nat → List Nat} {B : Gd} {ρ : List Loc} {h : Hp} {w : World} (hO : ObjsO o B ρ h w) {r : Nat} {k : Blk} {l : Loc} (hk : h.obj r = some k) (hl : At ρ r l) : ∀ b ∈ o r, b < w.heap.size := (hO.is r k l hk hl).2.1

theorem ObjsO.change {o : Nat → List Nat} {B : Gd} {ρ : List Loc} {h : Hp} {w w' : World} (hO : ObjsO o B ρ h w) (hs : w.heap.size ≤ w'.heap.size) (hb : ∀ r k l, h.obj r = some k → At ρ r l → ∀ b ∈ o r, w'.heap[b]? = w.heap[b]?) : ObjsO o B ρ h w' :=
  ⟨fun r k l hk hl => by
    obtain ⟨h1, h2, h3, h4⟩ := hO.is r k l hk hl
    exact ⟨h1.frame w' hs (hb r k l hk hl), fun b hb => Nat.lt_of_lt_of_le (h2 b hb) hs, h3, h4⟩, hO.row, hO.obj, hO.here⟩

/-- Objects of another heap that are among those of this one. -/
theorem ObjsO.via {o : Nat → List Nat} {B B' : Gd} {ρ ρ' : List Loc} {h h' : Hp} {w : World} (hO : ObjsO o B ρ h w) (f : Nat → Nat) (hf : ∀ r r' k k', h'.obj r = some k → h'.obj r' = some k' → r ≠ r' → f r ≠ f r')
    (ho : ∀ r k l, h'.obj r = some k → At ρ' r l → At ρ (f r) l ∧ ∃ k0, h.obj (f r) = some k0 ∧ k0.ty = k.ty ∧ k0.elems = k.elems ∧ (k.wr = true → k0.wr = true ∧ Gd.le B' B))
    (hr : ∀ r k l, h'.row r = some k → At ρ' r l → At ρ (f r) l ∧ ∃ k0, h.row (f r) = some k0 ∧ (k.wr = true → k0.wr = true)) (hh : ∀ r k, h'.obj r = some k → ∃ l, At ρ' r l) : ObjsO (fun r => o (f r)) B' ρ' h' w := by
  refine ⟨fun r k l hk hl => ?_, fun r r' k k' l l' hk hk' hl hl' hw => ?_, fun r r' k k' l l' hk hk' hne hl hl' => ?_, hh⟩
  · obtain ⟨a, k0, a1, a2, a3, a4⟩ := ho r k l hk hl
    obtain ⟨h1, h2, h3, h4⟩ := hO.is _ k0 l a1 a
    rw [a2, a3] at h1
    exact ⟨h1, h2, fun hw b hb hB => h3 (a4 hw).1 b hb ((a4 hw).2 b hB), h4⟩
  · obtain ⟨a, k0, a1, a2, _⟩ := ho r k l hk hl
    obtain ⟨b, k1, b1, b2⟩ := hr r' k' l' hk' hl'
    exact hO.row _ _ k0 k1 l l' a1 b1 a b (a2 ▸ hw.imp id b2)
  · obtain ⟨a, k0, a1, _⟩ := ho r k l hk hl
    obtain ⟨b, k1, b1, _⟩ := ho r' k' l' hk' hl'
    exact hO.obj _ _ k0 k1 l l' a1 b1 (hf r r' k k' hk hk' hne) a b

theorem ObjsR.none {B : Gd} {ρ : List Loc} {h : Hp} {w : World} (hn : ∀ r k, h.obj r = some k → False) : ObjsR B ρ h w :=
  ⟨fun _ => [], fun r k _ hk _ => (hn r k hk).elim, fun r _ k _ _ _ hk => (hn r k hk).elim, fun r _ k _ _ _ hk => (hn r k hk).elim, fun r k hk => (hn r k hk).elim⟩

/-- Objects that are all there already; rows at places that are there already. -/
theorem ObjsO.same {o : Nat → List Nat} {B : Gd} {ρ : List Loc} {h h' : Hp} {w : World} (hO : ObjsO o B ρ h w) (ho : ∀ r k, h'.obj r = some k → h.obj r = some k) (hr : ∀ r k, h'.row r = some k → ∃ k0, h.row r = some k0 ∧ (k.wr = true → k0.wr = true)) : ObjsO o B ρ h' w :=
  hO.via id (fun _ _ _ _ _ _ h => h) (fun r k _ hk hl => ⟨hl, k, ho r k hk, rfl, rfl, fun h => ⟨h, .refl _⟩⟩) (fun r k _ hk hl => ⟨hl, hr r k hk⟩) fun r k hk => hO.here r k (ho r k hk)

theorem HpR.below {B : Gd} {ρ : List Loc} {h : Hp} {w w' : World} (hH : HpR B ρ h w) (hb : Bel (bl w.heap.size) w w') : HpR B ρ h w' :=
  ⟨hH.len, hH.base.trans (bl_mono hb.size), fun r k l hk hl => (hH.blk r k l hk hl).same (hb.block _ (hH.blk r k l hk hl).lt), hH.sep, hH.glob.below (hb.mono hH.base),
    let ⟨o, hO⟩ := hH.objs; ⟨o, hO.change hb.size fun _ _ _ hk hl b hb' => hb.block _ (hO.lt hk hl b hb')⟩⟩

theorem get_append {h : Hp} {k : Option Blk} {r : Nat} {k' : Blk} (hr : (h ++ [k] : Hp)[r]? = some (some k')) : (r < h.length ∧ h[r]? = some (some k')) ∨ (r = h.length ∧ k = some k') := by
  rcases Nat.lt_trichotomy r h.length with hlt | heq | hgt
  · rw [List.getElem?_append_left hlt] at hr; exact .inl ⟨hlt, hr⟩
  · subst heq; rw [List.getElem?_append_right (Nat.le_refl _)] at hr
    simp at hr
    exact .inr ⟨rfl, hr⟩
  · rw [List.getElem?_append_right (by omega)] at hr
    rw [List.getElem?_eq_none (by simp; omega)] at hr
    cases hr

theorem row_append {h : Hp} {k : Option Blk} {r : Nat} {k' : Blk} (hr : (h ++ [k] : Hp).row r = some k') : (r < h.length ∧ h.row r = some k') ∨ (r = h.length ∧ k = some k') := by
  obtain ⟨h1, h2⟩ := get_row.1 hr
  rcases get_append h1 with ⟨a, b⟩ | h
  · exact .inl ⟨a, get_row.2 ⟨b, h2⟩⟩
  · exact .inr h

theorem obj_append {h : Hp} {k : Option Blk} {r : Nat} {k' : Blk} (hr : (h ++ [k] : Hp).obj r = some k') : (r < h.length ∧ h.obj r = some k') ∨ (r = h.length ∧ k = some k' ∧ k'.esz = 0) := by
  obtain ⟨h1, h2⟩ := get_obj.1 hr
  rcases get_append h1 with ⟨a, b⟩ | h
  · exact .inl ⟨a, get_obj.2 ⟨b, h2⟩⟩
  · exact .inr ⟨h.1, h.2, h2⟩

/-- A row more. -/
theorem HpR.push {B : Gd} {ρ : List Loc} {h : Hp} {w : World} (hH : HpR B ρ h w) {k : Blk} {l : Loc} (hz : k.esz ≠ 0) (hk : BlkR (ρ ++ [l]) B w l k) (hne : ∀ r k' l', h.row r = some k' → At ρ r l' → l'.b ≠ l.b) {o : Nat → List Nat} (hO : ObjsO o B ρ h w) (hno : ∀ r k' l', h.obj r = some k' → At ρ r l' → l.b ∉ o r) :
    HpR B (ρ ++ [l]) (h ++ [some k]) w := by
  have old : ∀ {r : Nat} {l' : Loc}, r < h.length → At (ρ ++ [l]) r l' → At ρ r l' := by
    rintro r l' hr ⟨hl, hp⟩; rw [List.getElem?_append_left (by rw [hH.len]; exact hr)] at hl; exact ⟨hl, hp⟩
  have new : ∀ {l' : Loc}, At (ρ ++ [l]) h.length l' → l' = l := by
    rintro l' ⟨hl, _⟩; rw [← hH.len, List.getElem?_append_right (Nat.le_refl _)] at hl; simpa using hl.symm
  have objs : ObjsR B (ρ ++ [l]) (h ++ [some k]) w := by
    refine ⟨o, fun r k' l' hr hl => ?_, fun r r' k1 k2 l1 l2 hr hr' hl1 hl2 hw => ?_, fun r r' k1 k2 l1 l2 hr hr' hrr hl1 hl2 => ?_, fun r k' hr => ?_⟩
    rotate_left 3
    · rcases obj_append hr with ⟨_, g⟩ | ⟨_, g, g0⟩
      · exact let ⟨l', hl'⟩ := hO.here r k' g; ⟨l', getElem?_app _ hl'⟩
      · cases g; exact absurd g0 hz
    · rcases obj_append hr with ⟨hlt, g⟩ | ⟨_, g, g0⟩
      · exact hO.is r k' l' g (old hlt hl)
      · cases g; exact absurd g0 hz
    · rcases obj_append hr with ⟨hlt, g⟩ | ⟨_, g, g0⟩
      · rcases row_append hr' with ⟨hlt', g'⟩ | ⟨e', _⟩
        · exact hO.row r r' k1 k2 l1 l2 g g' (old hlt hl1) (old hlt' hl2) hw
        · subst e'; rw [new hl2]; exact hno r k1 l1 g (old hlt hl1)
      · cases g; exact absurd g0 hz
    · rcases obj_append hr with ⟨hlt, g⟩ | ⟨_, g, g0⟩
      · rcases obj_append hr' with ⟨hlt', g'⟩ | ⟨_, g', g0'⟩
        · exact hO.obj r r' k1 k2 l1 l2 g g' hrr (old hlt hl1) (old hlt' hl2)
        · cases g'; exact absurd g0' hz
      · cases g; exact absurd g0 hz
  refine ⟨by simp [hH.len], hH.base, fun r k' l' hr hl => ?_, fun r r' k1 k2 l1 l2 hr hr' hw hrr hl1 hl2 => ?_, hH.glob, objs⟩
  · rcases row_append hr with ⟨hlt, g⟩ | ⟨e, g⟩
    · exact (hH.blk r k' l' g (old hlt hl)).app _
    · subst e; cases g; rw [new hl]; exact hk
  · rcases row_append hr with ⟨hlt, g⟩ | ⟨e, g⟩ <;> rcases row_append hr' with ⟨hlt', g'⟩ | ⟨e', g'⟩
    · exact hH.sep r r' k1 k2 l1 l2 g g' hw hrr (old hlt hl1) (old hlt' hl2)
    · subst e'; rw [new hl2]; exact hne r k1 l1 g (old hlt hl1)
    · subst e; rw [new hl1]; exact (hne r' k2 l2 g' (old hlt' hl2)).symm
    · exact absurd (e.trans e'.symm) hrr

/-- A row more, of no place. -/
theorem HpR.pushPh {B : Gd} {ρ : List Loc} {h : Hp} {w : World} (hH : HpR B ρ h w) (k : Blk) (hz : k.esz ≠ 0) {l : Loc} (hp : l.ph = true) :
    HpR B (ρ ++ [l]) (h ++ [some k]) w := by
  have old : ∀ {r : Nat} {l' : Loc}, r < h.length → At (ρ ++ [l]) r l' → At ρ r l' := by
    rintro r l' hr ⟨hl, hp⟩; rw [List.getElem?_append_left (by rw [hH.len]; exact hr)] at hl; exact ⟨hl, hp⟩
  have new : ∀ {l' : Loc}, ¬ At (ρ ++ [l]) h.length l' := by
    rintro l' ⟨hl, h2⟩; rw [← hH.len, List.getElem?_append_right (Nat.le_refl _)] at hl
    have : l = l' := by simpa using hl
    rw [← this, hp] at h2; cases h2
  have oldr : ∀ {r : Nat} {l' : Loc} {k' : Blk}, (h ++ [some k] : Hp)[r]? = some (some k') → At (ρ ++ [l]) r l' → At ρ r l' ∧ h[r]? = some (some k') := by
    intro r l' k' hg hl
    rcases get_append hg with ⟨hlt, g⟩ | ⟨e, _⟩
    · exact ⟨old hlt hl, g⟩
    · subst e; exact absurd hl new
  refine ⟨by simp [hH.len], hH.base, fun r k' l' hr hl => ?_, fun r r' k1 k2 l1 l2 hr hr' hw hrr hl1 hl2 => ?_, hH.glob, ?_⟩
  rotate_left 2
  obtain ⟨o, hO⟩ := hH.objs
  refine ⟨_, hO.via id (fun _ _ _ _ _ _ h => h) (fun r k' l' hk hl => ?_) (fun r k' l' hk hl => ?_) fun r k' hk => (obj_append hk).elim (fun hg => let ⟨l', hl'⟩ := hO.here r k' hg.2; ⟨l', getElem?_app _ hl'⟩) fun hg => absurd (Option.some.inj hg.2.1 ▸ hg.2.2) hz⟩
  · obtain ⟨a, b⟩ := oldr (get_obj.1 hk).1 hl
    exact ⟨a, k', get_obj.2 ⟨b, (get_obj.1 hk).2⟩, rfl, rfl, fun h => ⟨h, .refl _⟩⟩
  · obtain ⟨a, b⟩ := oldr (get_row.1 hk).1 hl
    exact ⟨a, k', get_row.2 ⟨b, (get_row.1 hk).2⟩, id⟩
  · rcases row_append hr with ⟨hlt, g⟩ | ⟨e, g⟩
    · exact (hH.blk r k' l' g (old hlt hl)).app _
    · subst e; exact absurd hl new
  · rcases row_append hr with ⟨hlt, g⟩ | ⟨e, g⟩ <;> rcases row_append hr' with ⟨hlt', g'⟩ | ⟨e', g'⟩
    · exact hH.sep r r' k1 k2 l1 l2 g g' hw hrr (old hlt hl1) (old hlt' hl2)
    · subst e'; exact absurd hl2 new
    · subst e; exact absurd hl1 new
    · subst e; exact absurd hl1 new

theorem cells_flat {ρ : List Loc} : ∀ {xs : List AV} {vs : List Value}, AVRs ρ xs vs → ∀ (s : Nat), (xs.all fun e => e.sound && decide (e.cells.length = s)) = true → ∀ f : Bool, (f = true → xs.all AV.plain = true) →
    RowIs ρ f s xs (vs.flatMap fun v => v.cells.toList) ∧ (vs.flatMap fun v => v.cells.toList).length = xs.length * s
  | _, _, .nil, s, _, f, _ => ⟨.nil, by simp⟩
  | x :: xs, v :: vs, .cons h0 h1, s, hs, f, hf => by
    simp only [List.all_cons, Bool.and_eq_true, decide_eq_true_eq] at hs
    obtain ⟨⟨hs0, hl0⟩, hs1⟩ := hs
    obtain ⟨g1, g2⟩ := cells_flat h1 s (by simpa using hs1) f (fun h => by have := hf h; simp at this; simpa using this.2)
    have hv : v.cells.toList.length = s := by rw [← (AVR.cells hs0 h0).length, hl0]
    have h2 := RowIs.one hs0 h0 (f := f) (fun h => by have := hf h; simp at this; exact this.1)
    rw [hl0] at h2
    refine ⟨?_, ?_⟩
    · rw [List.flatMap_cons]
      exact h2.append g1 (by simp [hv])
    · rw [List.flatMap_cons, List.length_append, hv, g2, List.length_cons, Nat.add_mul]
      omega

/-- A new row at the heap's end. -/
theorem HpR.newRow {B : Gd} {ρ : List Loc} {h : Hp} {w : World} (hH : HpR B ρ h w) {k : Blk} {cells : Array Value} {cap : Nat} (_hw : k.wr = true) (hz : k.esz ≠ 0) (hr : RowIs ρ k.flat k.esz k.elems cells.toList) (hc : cells.size = cap * k.esz) (hcap : cap ≤ maxLen) (hle : k.elems.length ≤ cap) {w' : World}
    (hw' : w'.heap = (w.alloc (.cells cells k.ty)).heap) (hos : w'.os = w.os) (ht : w'.tape = w.tape) (ho : w'.output = w.output) (hd : strict = true → w.drawn ≤ w'.drawn) :
    HpR B (ρ ++ [⟨w.heap.size, 0, k.esz, cap, false⟩]) (h ++ [some k]) w' ∧ Bel (bl w.heap.size) w w' := by
  have hb : Bel (bl w.heap.size) w w' := ⟨⟨hos, ht, ho, by rw [hw', World.size_alloc]; omega, fun j hj => by rw [hw']; exact Below.heap_alloc w _ j hj⟩, hd⟩
  obtain ⟨o, hO⟩ := hH.objs
  refine ⟨(hH.below hb).push hz ?_ (fun r k' l' hk' hl' => ?_) (hO.change hb.size fun _ _ _ hk hl b hb' => hb.block _ (hO.lt hk hl b hb')) fun r k' l' hk' hl' hm => ?_, hb⟩
  · refine BlkR.app _ (.ofRow rfl (cur := cells) (fr := (0, 0)) (by rw [hw']; exact heap_alloc_new w _) (by simpa using hr) fun _ => ⟨rfl, rfl, rfl, hc, hcap, fun hB => ?_, hle⟩)
    have := hH.base _ hB
    exact absurd this (Nat.lt_irrefl _)
  · have := (hH.blk r k' l' hk' hl').lt
    simp only; omega
  · exact absurd (hO.lt hk' hl' _ hm) (Nat.lt_irrefl _)

theorem HpR.kill {B : Gd} {ρ : List Loc} {h : Hp} {w : World} (hH : HpR B ρ h w) (r : Nat) : HpR B ρ (h.set r none) w := by
  have hrow : ∀ {r' k}, Hp.row (h.set r none) r' = some k → r' ≠ r ∧ h.row r' = some k := by
    intro r' k hk
    rcases row_set hk with ⟨_, e⟩ | h
    · cases e
    · exact h
  have hobj : ∀ {r' k}, Hp.obj (h.set r none) r' = some k → h.obj r' = some k := by
    intro r' k hk
    rcases obj_set hk with ⟨_, e⟩ | h
    · cases e
    · exact h.2
  exact ⟨by simp [hH.len], hH.base, fun r' k l hk hl => hH.blk r' k l (hrow hk).2 hl, fun r1 r2 k1 k2 l1 l2 h1 h2 hw hne hl1 hl2 => hH.sep r1 r2 k1 k2 l1 l2 (hrow h1).2 (hrow h2).2 hw hne hl1 hl2, hH.glob,
    let ⟨o, hO⟩ := hH.objs; ⟨o, hO.same (fun _ _ => hobj) fun r k hk => ⟨k, (hrow hk).2, id⟩⟩⟩

/-- A row that is written in place. -/
theorem HpR.setRow {B : Gd} {ρ : List Loc} {h : Hp} {w : World} (hH : HpR B ρ h w) {r : Nat} {k k' : Blk} {l : Loc} (hk : h.row r = some k) (hl : At ρ r l) (hw : k.wr = true) {arr : Array Value}
    (hk' : BlkR ρ B (w.setRow l.b arr) l k') (hw' : k'.wr = true) (hz : k'.esz ≠ 0) : HpR B ρ (h.set r (some k')) (w.setRow l.b arr) ∧ Bel B w (w.setRow l.b arr) := by
  have hB : ¬ B l.b := by obtain ⟨_, _, _, _, _, h3⟩ := (hH.blk r k l hk hl).rowIs; exact (h3 hw).2.2.2.2.2.1
  have hsz : (w.setRow l.b arr).heap.size = w.heap.size := size_setRow w l.b arr
  have hrow : ∀ {r' k1}, Hp.row (h.set r (some k')) r' = some k1 → (r' = r ∧ k1 = k') ∨ (r' ≠ r ∧ h.row r' = some k1) := by
    intro r' k1 hk1
    rcases row_set hk1 with ⟨e, g⟩ | h
    · exact .inl ⟨e, (Option.some.inj g).symm⟩
    · exact .inr h
  have hbl : Bel B w (w.setRow l.b arr) := ⟨⟨rfl, rfl, rfl, by rw [hsz]; exact Nat.le_refl _, fun j hj => setRow_other w l.b j arr (fun e => hB (e ▸ hj))⟩, fun _ => Nat.le_refl _⟩
  refine ⟨⟨by simp [hH.len], by rw [hsz]; exact hH.base, fun r1 k1 l1 h1 hl1 => ?_, fun r1 r2 k1 k2 l1 l2 h1 h2 hw1 hne hl1 hl2 => ?_, hH.glob.below hbl, ?_⟩, hbl⟩
  rotate_left 2
  obtain ⟨o, hO⟩ := hH.objs
  refine ⟨o, (hO.change (by rw [hsz]; exact Nat.le_refl _) fun r' k1 l1 h1 hl1 b hb => setRow_other w l.b b arr fun e => hO.row r' r k1 k l1 l h1 hk hl1 hl (.inr hw) (e ▸ hb)).same (fun r' k1 h1 => ?_) fun r' k1 h1 => ?_⟩
  · rcases obj_set h1 with ⟨_, g⟩ | h
    · cases g; exact absurd (get_obj.1 h1).2 hz
    · exact h.2
  · rcases hrow h1 with ⟨rfl, _⟩ | ⟨_, h1⟩
    · exact ⟨k, hk, fun _ => hw⟩
    · exact ⟨k1, h1, id⟩
  · rcases hrow h1 with ⟨rfl, rfl⟩ | ⟨hne, h1⟩
    · rw [← hl.inj hl1]; exact hk'
    · exact (hH.blk r1 k1 l1 h1 hl1).same (setRow_other w l.b l1.b arr (hH.sep r r1 k k1 l l1 hk h1 hw (Ne.symm hne) hl hl1).symm)
  · rcases hrow h1 with ⟨e1, f1⟩ | ⟨n1, g1⟩ <;> rcases hrow h2 with ⟨e2, f2⟩ | ⟨n2, g2⟩
    · exact absurd (e1.trans e2.symm) hne
    · subst e1; exact hH.sep _ r2 k k2 l1 l2 hk g2 hw hne hl1 hl2
    · subst e2; exact hH.sep r1 _ k1 k l1 l2 g1 hk hw1 hne hl1 hl2
    · exact hH.sep r1 r2 k1 k2 l1 l2 g1 g2 hw1 hne hl1 hl2

/-- All that was there, but for some blocks. -/
def but (n : Nat) (own : List Nat) : Gd := fun b => b < n ∧ b ∉ own

/-- An object in another state: nothing else was touched. -/
theorem HpR.mutObj {B : Gd} {ρ : List Loc} {h : Hp} {w w' : World} (hH : HpR B ρ h w) {o : Nat → List Nat} (hO : ObjsO o B ρ h w) {r : Nat} {k : Blk} {l : Loc} (hk : h.obj r = some k) (hnf : k.ty ≠ frzTy) (hl : At ρ r l) (hw : k.wr = true) (hb : Bel (but w.heap.size (o r)) w w')
    {es : List AV} {own : List Nat} (hob : ObjR k.ty es l.b own w') (hown : ∀ b ∈ own, b < w'.heap.size ∧ ¬ but w.heap.size (o r) b) : HpR B ρ (h.set r (some ⟨true, k.ty, 0, true, es⟩)) w' ∧ Bel B w w' := by
  have sub : Gd.le B (but w.heap.size (o r)) := fun b hB => ⟨hH.base b hB, fun hm => (hO.is r k l hk hl).2.2.1 hw b hm hB⟩
  have hbB : Bel B w w' := hb.mono sub
  have rowOld : ∀ {r' k'}, Hp.row (h.set r (some ⟨true, k.ty, 0, true, es⟩)) r' = some k' → r' ≠ r ∧ h.row r' = some k' := by
    intro r' k' hk'
    rcases row_set hk' with ⟨_, g⟩ | h
    · cases g; exact absurd rfl (get_row.1 hk').2
    · exact h
  have far : ∀ {r' k' l'}, h.row r' = some k' → At ρ r' l' → but w.heap.size (o r) l'.b := fun g a => ⟨(hH.blk _ _ _ g a).lt, hO.row r _ k _ l _ hk g hl a (.inl hnf)⟩
  have faro : ∀ {r' k' l'}, r' ≠ r → h.obj r' = some k' → At ρ r' l' → ∀ b ∈ o r', but w.heap.size (o r) b := fun hne g a b hm => ⟨hO.lt g a b hm, fun hm' => hO.obj _ r _ k _ l g hk hne a hl b hm hm'⟩
  have eq : (if r = r then own else o r) = own := if_pos rfl
  have ne : ∀ {r'}, r' ≠ r → (if r' = r then own else o r') = o r' := fun h => if_neg h
  refine ⟨⟨by simp [hH.len], hH.base.trans (bl_mono hb.size), fun r' k' l' g a => ?_, fun r1 r2 k1 k2 l1 l2 g1 g2 hw1 hne a1 a2 => ?_, hH.glob.below hbB, fun r' => if r' = r then own else o r', fun r' k' l' g a => ?_, fun r1 r2 k1 k2 l1 l2 g1 g2 a1 a2 hww hm => ?_, fun r1 r2 k1 k2 l1 l2 g1 g2 hne a1 a2 b hm hm' => ?_, fun r' k' g => ?_⟩, hbB⟩
  rotate_left 5
  · rcases obj_set g with ⟨rfl, _⟩ | ⟨_, g⟩
    · exact ⟨l, hl⟩
    · exact hO.here r' k' g
  · obtain ⟨_, g⟩ := rowOld g
    exact (hH.blk r' k' l' g a).same (hb.block _ (far g a))
  · exact hH.sep r1 r2 k1 k2 l1 l2 (rowOld g1).2 (rowOld g2).2 hw1 hne a1 a2
  · rcases obj_set g with ⟨e, e2⟩ | ⟨hne, g'⟩
    · subst e
      have e3 := Option.some.inj e2
      subst e3
      have e4 := hl.inj a
      subst e4
      dsimp only
      rw [eq]
      exact ⟨hob, fun b hb => (hown b hb).1, fun _ b hm hB => (hown b hm).2 (sub b hB), (hO.is _ k l hk hl).2.2.2⟩
    · rw [ne hne]
      obtain ⟨q1, q2, q3, q4⟩ := hO.is r' k' l' g' a
      exact ⟨q1.frame w' hb.size fun b hm => hb.block b (faro hne g' a b hm), fun b hm => Nat.lt_of_lt_of_le (q2 b hm) hb.size, q3, q4⟩
  · have q2 := (rowOld g2).2
    rcases obj_set g1 with ⟨rfl, g⟩ | ⟨hne, g⟩
    · rw [eq] at hm
      exact (hown _ hm).2 (far q2 a2)
    · rw [ne hne] at hm
      exact hO.row r1 r2 k1 k2 l1 l2 g q2 a1 a2 hww hm
  · rcases obj_set g1 with ⟨rfl, g⟩ | ⟨hn1, g⟩ <;> rcases obj_set g2 with ⟨rfl, g'⟩ | ⟨hn2, g'⟩
    · exact hne rfl
    · rw [eq] at hm; rw [ne hn2] at hm'
      exact (hown b hm).2 (faro hn2 g' a2 b hm')
    · rw [ne hn1] at hm; rw [eq] at hm'
      exact (hown b hm').2 (faro hn1 g a1 b hm)
    · rw [ne hn1] at hm; rw [ne hn2] at hm'
      exact hO.obj r1 r2 k1 k2 l1 l2 g g' hne a1 a2 b hm hm'

/-- Raw memory, a block's cells turned. -/
def msetM : List MB → Nat → List AV → List MB
  | [], _, _ => []
  | x :: m, b, ds => if x.b = b then { x with cs := ds } :: m else x :: msetM m b ds

theorem memE_mset (b : Nat) (ds : List AV) : ∀ m : List MB, M.mset (memE m) b ds = memE (msetM m b ds)
  | [] => rfl
  | x :: m => by
    simp only [memE, List.map_cons, M.mblk, M.mset, msetM]
    by_cases e : x.b = b
    · rw [if_pos e, if_pos (by omega)]; rfl
    · rw [if_neg e, if_neg (by omega)]
      exact congrArg (M.mblk x.b x.ty x.cs :: ·) (memE_mset b ds m)

theorem msetM_names (b : Nat) (ds : List AV) : ∀ m : List MB, (msetM m b ds).map MB.b = m.map MB.b
  | [] => rfl
  | x :: m => by
    unfold msetM
    split
    · rfl
    · rw [List.map_cons, List.map_cons, msetM_names b ds m]

theorem mem_msetM {b : Nat} {ds : List AV} : ∀ {m : List MB}, (m.map MB.b).Nodup → ∀ {y : MB}, y ∈ msetM m b ds → (y ∈ m ∧ y.b ≠ b) ∨ ∃ x ∈ m, x.b = b ∧ y = { x with cs := ds }
  | [], _, y, h => by simp [msetM] at h
  | x :: m, hn, y, h => by
    rw [List.map_cons] at hn
    obtain ⟨n1, n2⟩ := List.nodup_cons.1 hn
    unfold msetM at h
    split at h
    · rename_i e
      rcases List.mem_cons.1 h with rfl | h
      · exact .inr ⟨x, List.mem_cons_self, e, rfl⟩
      · exact .inl ⟨List.mem_cons_of_mem _ h, fun e2 => n1 (e.trans e2.symm ▸ List.mem_map_of_mem h)⟩
    · rename_i e
      rcases List.mem_cons.1 h with rfl | h
      · exact .inl ⟨List.mem_cons_self, e⟩
      · rcases mem_msetM n2 h with ⟨a, c⟩ | ⟨z, a, c⟩
        · exact .inl ⟨List.mem_cons_of_mem _ a, c⟩
        · exact .inr ⟨z, List.mem_cons_of_mem _ a, c⟩

theorem msetM_head {b : Nat} {ds : List AV} {b0 : Nat} {m : List MB} (h : ∃ x, m[0]? = some x ∧ x.b = b0) : ∃ x, (msetM m b ds)[0]? = some x ∧ x.b = b0 := by
  obtain ⟨x, hx, e⟩ := h
  cases m with
  | nil => cases hx
  | cons y m =>
    cases hx
    unfold msetM
    split
    · exact ⟨_, rfl, e⟩
    · exact ⟨_, rfl, e⟩

theorem RawR.set {m : List MB} {b0 : Nat} {own : List Nat} {w w' : World} (hR : RawR m b0 own w) {b : Nat} {ds : List AV} {t : TypeId} {arr : Array Value} (ht : ∀ x ∈ m, x.b = b → x.ty = t) (hb : w'.heap[b]? = some (.cells arr t (0, 0))) (hv : AVRs [] ds (arr.toList.take ds.length))
    (ho : ∀ b', b' ≠ b → w'.heap[b']? = w.heap[b']?) : RawR (msetM m b ds) b0 own w' :=
  ⟨by rw [msetM_names]; exact hR.nd, fun y hy => by
    rcases mem_msetM hR.nd hy with ⟨h1, h2⟩ | ⟨x, h1, h2, rfl⟩
    · obtain ⟨a, cur, c, d⟩ := hR.is y h1
      exact ⟨a, cur, (ho _ h2).trans c, d⟩
    · exact ⟨(hR.is x h1).1, arr, by show w'.heap[x.b]? = some (.cells arr x.ty (0, 0)); rw [h2, ht x h1 h2]; exact hb, hv⟩, msetM_head hR.hd⟩

theorem AVR.plain1 {ρ : List Loc} {x : AV} {v : Value} (hp : x.plain1 = true) (h : AVR ρ x v) : AVR [] x v ∧ v.oneCell' = true := by
  have h1 : x.cell1 = true := by
    cases x with
    | lit v => cases v <;> first | rfl | cases hp
    | val v => cases v <;> first | rfl | cases hp
    | int => rfl
    | w64 => rfl
    | bool => rfl
    | func fn a b => rfl
    | _ => cases hp
  exact ⟨AVR.plain0 hp h, AVR.one h1 h⟩

theorem AVRs.plain1 {ρ : List Loc} : ∀ {xs : List AV} {vs : List Value}, xs.all AV.plain1 = true → AVRs ρ xs vs → AVRs [] xs vs
  | _, _, _, .nil => .nil
  | _, _, hp, .cons h0 h1 => by
    rw [List.all_cons, Bool.and_eq_true] at hp
    exact .cons (AVR.plain1 hp.1 h0).1 (AVRs.plain1 hp.2 h1)

/-- What names no row is what it is whatever rows there are. -/
theorem AVR.plain {ρ : List Loc} {x : AV} {v : Value} (hp : x.plain = true) (h : AVR ρ x v) : AVR [] x v := by
  cases x with
  | agg cs => cases h with | agg h => exact .agg (AVRs.plain1 hp h)
  | lit v => cases h; exact .lit _
  | int k n => cases h; exact .int _ _
  | w64 x => cases h; exact .w64 _
  | bool b => cases h; exact .bool _
  | val v => cases h; exact .val _
  | func fn a b => exact AVR.plain0 hp h
  | _ => cases hp

theorem AVRs.plain {ρ : List Loc} : ∀ {xs : List AV} {vs : List Value}, (∀ x ∈ xs, x.plain = true) → AVRs ρ xs vs → AVRs [] xs vs
  | _, _, _, .nil => .nil
  | _, _, hp, .cons h0 h1 => .cons (AVR.plain (hp _ List.mem_cons_self) h0) (AVRs.plain (fun x hx => hp x (List.mem_cons_of_mem _ hx)) h1)

theorem AVR.det1 {ρ ρ' : List Loc} {x : AV} {u v : Value} (hp : x.plain1 = true) (h : AVR ρ x u) (h' : AVR ρ' x v) : u = v := by
  cases x with
  | lit v => cases h; cases h'; rfl
  | int k n => cases h; cases h'; rfl
  | w64 x => cases h; cases h'; rfl
  | bool b => cases h; cases h'; rfl
  | val v => cases h; cases h'; rfl
  | func fn a b =>
    obtain ⟨g, rfl, rfl, rfl⟩ := plain1_func hp
    cases h with
    | func h1 h2 => cases h' with | func g1 g2 => cases h1; cases h2; cases g1; cases g2; rfl
  | _ => cases hp

theorem AVRs.det1 {ρ ρ' : List Loc} : ∀ {xs : List AV} {us vs : List Value}, xs.all AV.plain1 = true → AVRs ρ xs us → AVRs ρ' xs vs → us = vs
  | _, _, _, _, .nil, .nil => rfl
  | _, _, _, hp, .cons h0 h1, .cons g0 g1 => by
    rw [List.all_cons, Bool.and_eq_true] at hp
    rw [AVR.det1 hp.1 h0 g0, AVRs.det1 hp.2 h1 g1]

/-- It is one value alone. -/
theorem AVR.det {ρ ρ' : List Loc} {x : AV} {u v : Value} (hp : x.plain = true) (h : AVR ρ x u) (h' : AVR ρ' x v) : u = v := by
  cases x with
  | agg cs => cases h with | agg h => cases h' with | agg h' => rw [AVRs.det1 hp h h']
  | lit v => cases h; cases h'; rfl
  | int k n => cases h; cases h'; rfl
  | w64 x => cases h; cases h'; rfl
  | bool b => cases h; cases h'; rfl
  | val v => cases h; cases h'; rfl
  | func fn a b => exact AVR.det1 hp h h'
  | _ => cases hp

end Go.Sx
