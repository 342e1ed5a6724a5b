/-
  The calculus (SxA): rows of memory that are made, written, and appended to.
-/
import Derived.Test.YtffcpblbdfjagaaSxE
namespace Go.Sx
open Go.RowKit

/-- The cells of elements, one element behind the other. -/
def RowIs (ρ : List Loc) (flat : Bool) (esz : Nat) (elems : List AV) (arr : List Value) : Prop :=
  ∀ (i : Nat) e, elems[i]? = some e → e.cells.length = esz ∧ e.sound = true ∧ ∀ (o : Nat) c, e.cells[o]? = some c → ∃ v, arr[i * esz + o]? = some v ∧ AVR (if flat then [] else ρ) c v

theorem RowIs.weaken {ρ : List Loc} {f g : Bool} {esz : Nat} {elems : List AV} {arr : List Value} (h : RowIs ρ f esz elems arr) (hg : g = true → f = true) : RowIs ρ g esz elems arr := by
  intro i e he
  obtain ⟨h1, h2, h3⟩ := h i e he
  refine ⟨h1, h2, fun o c hc => ?_⟩
  obtain ⟨v, hv, hr⟩ := h3 o c hc
  refine ⟨v, hv, ?_⟩
  cases g
  · cases f
    · exact hr
    · exact AVR.of_nil (by simpa using hr)
  · simpa [hg rfl] using hr

theorem RowIs.app {ρ : List Loc} {f : Bool} {esz : Nat} {elems : List AV} {arr : List Value} (ρ' : List Loc) (h : RowIs ρ f esz elems arr) : RowIs (ρ ++ ρ') f esz elems arr := by
  intro i e he
  obtain ⟨h1, h2, h3⟩ := h i e he
  refine ⟨h1, h2, fun o c hc => ?_⟩
  obtain ⟨v, hv, hr⟩ := h3 o c hc
  refine ⟨v, hv, ?_⟩
  cases f
  · exact AVR.app ρ' (by simpa using hr)
  · simpa using hr

theorem RowIs.len {ρ : List Loc} {f : Bool} {esz : Nat} {elems : List AV} {arr : List Value} (h : RowIs ρ f esz elems arr) : elems.length * esz ≤ arr.length := by
  rcases Nat.eq_zero_or_pos esz with hz | hz
  · simp [hz]
  rcases Nat.eq_zero_or_pos elems.length with h0 | h0
  · simp [h0]
  · obtain ⟨n, hn⟩ : ∃ n, elems.length = n + 1 := ⟨elems.length - 1, by omega⟩
    obtain ⟨hl, _, hc⟩ := h n elems[n] (List.getElem?_eq_getElem (by omega))
    obtain ⟨v, hv, _⟩ := hc (esz - 1) _ (List.getElem?_eq_getElem (by omega))
    have := (List.getElem?_eq_some_iff.1 hv).1
    rw [hn, Nat.add_mul]
    omega

theorem RowIs.take {ρ : List Loc} {f : Bool} {esz : Nat} {elems : List AV} {arr : List Value} (h : RowIs ρ f esz elems arr) (n : Nat) : RowIs ρ f esz (elems.take n) (arr.take (n * esz)) := by
  intro i e he
  rw [List.getElem?_take] at he
  split at he
  · rename_i hi
    obtain ⟨h1, h2, h3⟩ := h i e he
    refine ⟨h1, h2, fun o c hc => ?_⟩
    obtain ⟨v, hv, hr⟩ := h3 o c hc
    refine ⟨v, ?_, hr⟩
    have ho : o < esz := h1 ▸ (List.getElem?_eq_some_iff.1 hc).1
    rw [List.getElem?_take, if_pos, hv]
    calc i * esz + o < i * esz + esz := by omega
      _ = (i + 1) * esz := by rw [Nat.add_mul]; omega
      _ ≤ n * esz := Nat.mul_le_mul_right _ (by omega)
  · simp at he

theorem RowIs.drop {ρ : List Loc} {f : Bool} {esz : Nat} {elems : List AV} {arr : List Value} (h : RowIs ρ f esz elems arr) (n : Nat) : RowIs ρ f esz (elems.drop n) (arr.drop (n * esz)) := by
  intro i e he
  rw [List.getElem?_drop] at he
  obtain ⟨h1, h2, h3⟩ := h _ e he
  refine ⟨h1, h2, fun o c hc => ?_⟩
  obtain ⟨v, hv, hr⟩ := h3 o c hc
  refine ⟨v, ?_, hr⟩
  rw [List.getElem?_drop, ← hv, Nat.add_mul, Nat.add_assoc]

theorem RowIs.grow {ρ : List Loc} {f : Bool} {esz : Nat} {elems : List AV} {arr arr' : List Value} (h : RowIs ρ f esz elems arr) (hp : ∀ (j : Nat) v, arr[j]? = some v → arr'[j]? = some v) : RowIs ρ f esz elems arr' := by
  intro i e he
  obtain ⟨h1, h2, h3⟩ := h i e he
  exact ⟨h1, h2, fun o c hc => let ⟨v, hv, hr⟩ := h3 o c hc; ⟨v, hp _ _ hv, hr⟩⟩

theorem RowIs.append {ρ : List Loc} {f : Bool} {esz : Nat} {xs ys : List AV} {as bs : List Value} (h : RowIs ρ f esz xs as) (h' : RowIs ρ f esz ys bs) (hl : as.length = xs.length * esz) : RowIs ρ f esz (xs ++ ys) (as ++ bs) := by
  intro i e he
  by_cases hi : i < xs.length
  · rw [List.getElem?_append_left hi] at he
    obtain ⟨h1, h2, h3⟩ := h i e he
    refine ⟨h1, h2, fun o c hc => ?_⟩
    obtain ⟨v, hv, hr⟩ := h3 o c hc
    exact ⟨v, by rw [List.getElem?_append_left (List.getElem?_eq_some_iff.1 hv).1]; exact hv, hr⟩
  · rw [List.getElem?_append_right (by omega)] at he
    obtain ⟨h1, h2, h3⟩ := h' _ e he
    refine ⟨h1, h2, fun o c hc => ?_⟩
    obtain ⟨v, hv, hr⟩ := h3 o c hc
    refine ⟨v, ?_, hr⟩
    have e1 : i * esz = xs.length * esz + (i - xs.length) * esz := by rw [← Nat.add_mul]; congr 1; omega
    rw [List.getElem?_append_right (by omega), hl, ← hv]
    congr 1
    omega

theorem RowIs.nil {ρ : List Loc} {f : Bool} {esz : Nat} {arr : List Value} : RowIs ρ f esz [] arr := by intro i e he; simp at he

/-- One element. -/
theorem RowIs.one {ρ : List Loc} {f : Bool} {x : AV} {v : Value} (hs : x.sound = true) (hr : AVR ρ x v) (hf : f = true → x.plain = true) : RowIs ρ f x.cells.length [x] v.cells.toList := by
  intro i e he
  cases i with
  | succ i => simp at he
  | zero =>
    simp at he; subst he
    refine ⟨rfl, hs, fun o c hc => ?_⟩
    obtain ⟨u, hu, hcu⟩ := (AVR.cells hs hr).get hc
    refine ⟨u, by simpa using hu, ?_⟩
    cases f
    · exact hcu
    · have hp := hf rfl
      have hall : ∀ c ∈ x.cells, c.plain1 = true := by
        intro c hc
        cases x <;> simp_all [AV.plain, AV.cells]
      have hc1 := hall c (List.mem_of_getElem? hc)
      cases hcu <;> simp [AV.plain1] at hc1 <;> constructor

theorem BlkR.rowIs {ρ : List Loc} {B : Nat} {w : World} {l : Loc} {k : Blk} (h : BlkR ρ B w l k) : ∃ cur ty fr, w.heap[l.b]? = some (.cells cur ty fr) ∧ RowIs ρ k.flat k.esz k.elems (cur.toList.drop l.off) ∧
    (k.wr = true → ty = k.ty ∧ fr = (0, 0) ∧ l.off = 0 ∧ cur.size = l.cap * k.esz ∧ l.cap ≤ maxLen ∧ B ≤ l.b ∧ k.elems.length ≤ l.cap) := by
  obtain ⟨_, cur, ty, fr, h1, h2, h3⟩ := h
  refine ⟨cur, ty, fr, h1, fun i e he => ?_, h3⟩
  obtain ⟨g1, g2, g3⟩ := h2 i e he
  refine ⟨g1, g2, fun o c hc => ?_⟩
  obtain ⟨v, hv, hr⟩ := g3 o c hc
  exact ⟨v, by rw [List.getElem?_drop]; simpa [Nat.add_assoc] using hv, hr⟩

theorem BlkR.ofRow {ρ : List Loc} {B : Nat} {w : World} {l : Loc} {k : Blk} (he : l.esz = k.esz) {cur : Array Value} {ty : TypeId} {fr : Nat × Nat} (h1 : w.heap[l.b]? = some (.cells cur ty fr)) (h2 : RowIs ρ k.flat k.esz k.elems (cur.toList.drop l.off))
    (h3 : k.wr = true → ty = k.ty ∧ fr = (0, 0) ∧ l.off = 0 ∧ cur.size = l.cap * k.esz ∧ l.cap ≤ maxLen ∧ B ≤ l.b ∧ k.elems.length ≤ l.cap) : BlkR ρ B w l k := by
  refine ⟨he, cur, ty, fr, h1, fun i e hi => ?_, h3⟩
  obtain ⟨g1, g2, g3⟩ := h2 i e hi
  refine ⟨g1, g2, fun o c hc => ?_⟩
  obtain ⟨v, hv, hr⟩ := g3 o c hc
  exact ⟨v, by rw [List.getElem?_drop] at hv; simpa [Nat.add_assoc] using hv, hr⟩

theorem BlkR.app {ρ : List Loc} {B : Nat} {w : World} {l : Loc} {k : Blk} (ρ' : List Loc) (h : BlkR ρ B w l k) : BlkR (ρ ++ ρ') B w l k := by
  obtain ⟨cur, ty, fr, h1, h2, h3⟩ := h.rowIs
  exact .ofRow h.esz h1 (h2.app ρ') h3

theorem BlkR.same {ρ : List Loc} {B : Nat} {w w' : World} {l : Loc} {k : Blk} (h : BlkR ρ B w l k) (hs : w'.heap[l.b]? = w.heap[l.b]?) : BlkR ρ B w' l k := by
  obtain ⟨cur, ty, fr, h1, h2, h3⟩ := h.rowIs
  exact .ofRow h.esz (hs.trans h1) h2 h3

theorem BlkR.lt {ρ : List Loc} {B : Nat} {w : World} {l : Loc} {k : Blk} (h : BlkR ρ B w l k) : l.b < w.heap.size := by
  obtain ⟨cur, ty, fr, h1, _⟩ := h.rowIs
  exact (Array.getElem?_eq_some_iff.1 h1).1

theorem HpR.below {B : Nat} {ρ : List Loc} {h : Hp} {w w' : World} (hH : HpR B ρ h w) (hb : Bel w.heap.size w w') : HpR B ρ h w' :=
  ⟨hH.len, Nat.le_trans hH.base hb.size, fun r k l hk hl => (hH.blk r k l hk hl).same (hb.block _ (hH.blk r k l hk hl).lt), hH.sep, hH.glob.below (hb.mono hH.base)⟩

theorem row_append {h : Hp} {k : Option Blk} {r : Nat} {k' : Blk} (hr : (h ++ [k] : Hp).row r = some k') : (r < h.length ∧ h.row r = some k') ∨ (r = h.length ∧ k = some k') := by
  unfold Hp.row at *
  rcases Nat.lt_trichotomy r h.length with hlt | heq | hgt
  · rw [List.getElem?_append_left hlt] at hr; exact .inl ⟨hlt, hr⟩
  · subst heq; rw [List.getElem?_append_right (Nat.le_refl _)] at hr
    simp at hr
    cases k <;> simp_all
  · rw [List.getElem?_append_right (by omega)] at hr
    rw [List.getElem?_eq_none (by simp; omega)] at hr
    cases hr

/-- A row more. -/
theorem HpR.push {B : Nat} {ρ : List Loc} {h : Hp} {w : World} (hH : HpR B ρ h w) {k : Blk} {l : Loc} (hk : BlkR (ρ ++ [l]) B w l k) (hne : ∀ r k' l', h.row r = some k' → At ρ r l' → l'.b ≠ l.b) :
    HpR B (ρ ++ [l]) (h ++ [some k]) w := by
  have old : ∀ {r : Nat} {l' : Loc}, r < h.length → At (ρ ++ [l]) r l' → At ρ r l' := by
    rintro r l' hr ⟨hl, hp⟩; rw [List.getElem?_append_left (by rw [hH.len]; exact hr)] at hl; exact ⟨hl, hp⟩
  have new : ∀ {l' : Loc}, At (ρ ++ [l]) h.length l' → l' = l := by
    rintro l' ⟨hl, _⟩; rw [← hH.len, List.getElem?_append_right (Nat.le_refl _)] at hl; simpa using hl.symm
  refine ⟨by simp [hH.len], hH.base, fun r k' l' hr hl => ?_, fun r r' k1 k2 l1 l2 hr hr' hw hrr hl1 hl2 => ?_, hH.glob⟩
  · rcases row_append hr with ⟨hlt, g⟩ | ⟨e, g⟩
    · exact (hH.blk r k' l' g (old hlt hl)).app _
    · subst e; cases g; rw [new hl]; exact hk
  · rcases row_append hr with ⟨hlt, g⟩ | ⟨e, g⟩ <;> rcases row_append hr' with ⟨hlt', g'⟩ | ⟨e', g'⟩
    · exact hH.sep r r' k1 k2 l1 l2 g g' hw hrr (old hlt hl1) (old hlt' hl2)
    · subst e'; rw [new hl2]; exact hne r k1 l1 g (old hlt hl1)
    · subst e; rw [new hl1]; exact (hne r' k2 l2 g' (old hlt' hl2)).symm
    · exact absurd (e.trans e'.symm) hrr

/-- A row more, of no place. -/
theorem HpR.pushPh {B : Nat} {ρ : List Loc} {h : Hp} {w : World} (hH : HpR B ρ h w) (k : Blk) {l : Loc} (hp : l.ph = true) :
    HpR B (ρ ++ [l]) (h ++ [some k]) w := by
  have old : ∀ {r : Nat} {l' : Loc}, r < h.length → At (ρ ++ [l]) r l' → At ρ r l' := by
    rintro r l' hr ⟨hl, hp⟩; rw [List.getElem?_append_left (by rw [hH.len]; exact hr)] at hl; exact ⟨hl, hp⟩
  have new : ∀ {l' : Loc}, ¬ At (ρ ++ [l]) h.length l' := by
    rintro l' ⟨hl, h2⟩; rw [← hH.len, List.getElem?_append_right (Nat.le_refl _)] at hl
    have : l = l' := by simpa using hl
    rw [← this, hp] at h2; cases h2
  refine ⟨by simp [hH.len], hH.base, fun r k' l' hr hl => ?_, fun r r' k1 k2 l1 l2 hr hr' hw hrr hl1 hl2 => ?_, hH.glob⟩
  · rcases row_append hr with ⟨hlt, g⟩ | ⟨e, g⟩
    · exact (hH.blk r k' l' g (old hlt hl)).app _
    · subst e; exact absurd hl new
  · rcases row_append hr with ⟨hlt, g⟩ | ⟨e, g⟩ <;> rcases row_append hr' with ⟨hlt', g'⟩ | ⟨e', g'⟩
    · exact hH.sep r r' k1 k2 l1 l2 g g' hw hrr (old hlt hl1) (old hlt' hl2)
    · subst e'; exact absurd hl2 new
    · subst e; exact absurd hl1 new
    · subst e; exact absurd hl1 new

theorem cells_flat {ρ : List Loc} : ∀ {xs : List AV} {vs : List Value}, AVRs ρ xs vs → ∀ (s : Nat), (xs.all fun e => e.sound && decide (e.cells.length = s)) = true → ∀ f : Bool, (f = true → xs.all AV.plain = true) →
    RowIs ρ f s xs (vs.flatMap fun v => v.cells.toList) ∧ (vs.flatMap fun v => v.cells.toList).length = xs.length * s
  | _, _, .nil, s, _, f, _ => ⟨.nil, by simp⟩
  | x :: xs, v :: vs, .cons h0 h1, s, hs, f, hf => by
    simp only [List.all_cons, Bool.and_eq_true, decide_eq_true_eq] at hs
    obtain ⟨⟨hs0, hl0⟩, hs1⟩ := hs
    obtain ⟨g1, g2⟩ := cells_flat h1 s (by simpa using hs1) f (fun h => by have := hf h; simp at this; simpa using this.2)
    have hv : v.cells.toList.length = s := by rw [← (AVR.cells hs0 h0).length, hl0]
    have h2 := RowIs.one hs0 h0 (f := f) (fun h => by have := hf h; simp at this; exact this.1)
    rw [hl0] at h2
    refine ⟨?_, ?_⟩
    · rw [List.flatMap_cons]
      exact h2.append g1 (by simp [hv])
    · rw [List.flatMap_cons, List.length_append, hv, g2, List.length_cons, Nat.add_mul]
      omega

/-- A new row at the heap's end. -/
theorem HpR.newRow {B : Nat} {ρ : List Loc} {h : Hp} {w : World} (hH : HpR B ρ h w) {k : Blk} {cells : Array Value} {cap : Nat} (_hw : k.wr = true) (hr : RowIs ρ k.flat k.esz k.elems cells.toList) (hc : cells.size = cap * k.esz) (hcap : cap ≤ maxLen) (hle : k.elems.length ≤ cap) {w' : World}
    (hw' : w'.heap = (w.alloc (.cells cells k.ty)).heap) (hos : w'.os = w.os) (ht : w'.tape = w.tape) (ho : w'.output = w.output) (hd : w.drawn ≤ w'.drawn) :
    HpR B (ρ ++ [⟨w.heap.size, 0, k.esz, cap, false⟩]) (h ++ [some k]) w' ∧ Bel w.heap.size w w' := by
  have hb : Bel w.heap.size w w' := ⟨⟨hos, ht, ho, by rw [hw', World.size_alloc]; omega, fun j hj => by rw [hw']; exact Below.heap_alloc w _ j hj⟩, hd⟩
  refine ⟨(hH.below hb).push ?_ fun r k' l' hk' hl' => ?_, hb⟩
  · refine BlkR.app _ (.ofRow rfl (cur := cells) (fr := (0, 0)) (by rw [hw']; exact heap_alloc_new w _) (by simpa using hr) fun _ => ⟨rfl, rfl, rfl, hc, hcap, hH.base, hle⟩)
  · have := (hH.blk r k' l' hk' hl').lt
    simp only; omega

theorem HpR.kill {B : Nat} {ρ : List Loc} {h : Hp} {w : World} (hH : HpR B ρ h w) (r : Nat) : HpR B ρ (h.set r none) w := by
  have hrow : ∀ {r' k}, Hp.row (h.set r none) r' = some k → r' ≠ r ∧ h.row r' = some k := by
    intro r' k hk
    unfold Hp.row at hk
    by_cases e : r = r'
    · subst e
      rw [List.getElem?_set_self'] at hk
      cases hg : h[r]? <;> simp [hg] at hk
    · rw [List.getElem?_set_ne e] at hk; exact ⟨fun e' => e e'.symm, hk⟩
  exact ⟨by simp [hH.len], hH.base, fun r' k l hk hl => hH.blk r' k l (hrow hk).2 hl, fun r1 r2 k1 k2 l1 l2 h1 h2 hw hne hl1 hl2 => hH.sep r1 r2 k1 k2 l1 l2 (hrow h1).2 (hrow h2).2 hw hne hl1 hl2, hH.glob⟩

/-- A row that is written in place. -/
theorem HpR.setRow {B : Nat} {ρ : List Loc} {h : Hp} {w : World} (hH : HpR B ρ h w) {r : Nat} {k k' : Blk} {l : Loc} (hk : h.row r = some k) (hl : At ρ r l) (hw : k.wr = true) {arr : Array Value}
    (hk' : BlkR ρ B (w.setRow l.b arr) l k') (hw' : k'.wr = true) : HpR B ρ (h.set r (some k')) (w.setRow l.b arr) ∧ Bel B w (w.setRow l.b arr) := by
  have hB : B ≤ l.b := by obtain ⟨_, _, _, _, _, h3⟩ := (hH.blk r k l hk hl).rowIs; exact (h3 hw).2.2.2.2.2.1
  have hsz : (w.setRow l.b arr).heap.size = w.heap.size := size_setRow w l.b arr
  have hrow : ∀ {r' k1}, Hp.row (h.set r (some k')) r' = some k1 → (r' = r ∧ k1 = k') ∨ (r' ≠ r ∧ h.row r' = some k1) := by
    intro r' k1 hk1
    unfold Hp.row at hk1
    by_cases e : r = r'
    · subst e
      rw [List.getElem?_set_self'] at hk1
      cases hg : h[r]? <;> simp [hg] at hk1
      exact .inl ⟨rfl, hk1.symm⟩
    · rw [List.getElem?_set_ne e] at hk1; exact .inr ⟨fun e' => e e'.symm, hk1⟩
  have hbl : Bel B w (w.setRow l.b arr) := ⟨⟨rfl, rfl, rfl, by rw [hsz]; exact Nat.le_refl _, fun j hj => setRow_other w l.b j arr (by omega)⟩, Nat.le_refl _⟩
  refine ⟨⟨by simp [hH.len], by rw [hsz]; exact hH.base, fun r1 k1 l1 h1 hl1 => ?_, fun r1 r2 k1 k2 l1 l2 h1 h2 hw1 hne hl1 hl2 => ?_, hH.glob.below hbl⟩, hbl⟩
  · rcases hrow h1 with ⟨rfl, rfl⟩ | ⟨hne, h1⟩
    · rw [← hl.inj hl1]; exact hk'
    · exact (hH.blk r1 k1 l1 h1 hl1).same (setRow_other w l.b l1.b arr (hH.sep r r1 k k1 l l1 hk h1 hw (Ne.symm hne) hl hl1).symm)
  · rcases hrow h1 with ⟨e1, f1⟩ | ⟨n1, g1⟩ <;> rcases hrow h2 with ⟨e2, f2⟩ | ⟨n2, g2⟩
    · exact absurd (e1.trans e2.symm) hne
    · subst e1; exact hH.sep _ r2 k k2 l1 l2 hk g2 hw hne hl1 hl2
    · subst e2; exact hH.sep r1 _ k1 k l1 l2 g1 hk hw1 hne hl1 hl2
    · exact hH.sep r1 r2 k1 k2 l1 l2 g1 g2 hw1 hne hl1 hl2

end Go.Sx
