/-
  The calculus (SxA): a range over a function, in no round of another: the law that the calculus goes by. A round is walked as a whole: what is assigned, and the body.
-/
import Derived.Test.YthfgocpejlhanaaSxW
import Derived.RangeFuncNested
namespace Go.Sx
open Go.RowKit

theorem wpIn_rng {α : Type} {P : Program} {g : Operand} {ps : Array Tmp} {asg body : Code} {Q : Exit → Act → World → Prop} {a : Act} {w : World} {n : Nat} {gf : Nat} {lb : Array Value} (hg : a.eval g = .func (.func gf) #[] lb)
    (eg : ∀ args w, (callFunc gf args).run P w = .ok (.enter gf args) w) {encs : α → Array Value} {Kp : World → World → Prop} {S Sp : List α → Prop} {N : Nat} (hseq : SeqStopsK (rnd none) (n - 1) P gf lb encs Kp S Sp N w) (hps : ∀ x, (encs x).size = ps.size)
    (hKt : ∀ {A B C : World}, Kp A B → Kp B C → Kp A C) (hKb : ∀ (W : World) (l : Nat) (o : Obj), w.heap.size ≤ l → Kp W (W.putObj l o))
    (I : List α → World → Prop) (Ix : Code → List α → World → Prop) (hI : OwnFrom w.heap.size I) (hIx : ∀ c, OwnFrom w.heap.size (Ix c)) (h0 : I [] w)
    (hround : ∀ (l : Nat) (pre : List α) (x : α) (W : World), w.heap.size ≤ l → I pre W → pre.length < N →
      asg.wpIn (rnd (some l)) (n - 1 - 1) P (Exit.then (fun a' Wa => KeepsFrom w.heap.size W Wa ∧ Kp W Wa ∧ ∀ Wb, Wa.grownBy Wb (some l) → (∃ o : Obj, Wa.heap[l]? = some o ∧ o.isCells = false) →
        body.wpIn (rnd (some l)) (n - 1 - 1) P (ownPostG w.heap.size Kp I Ix (pre ++ [x]) Wb) a' Wb) fun _ _ _ => False) { tmps := (ps.zip (encs x)).foldl (fun t (p, v) => t.setIfInBounds p v) a.tmps, defers := [] } W)
    (hdone : ∀ (D : Nat) (xs : List α) (W : World), w.heap.size ≤ D → S xs → I xs W → W.heap[D]? = some (.deferred (some [])) → Q .normal { a with defers := { target := .collected D, args := #[] } :: a.defers } W)
    (hstop : ∀ (D : Nat) (c : Code) (pre : List α) (W : World), w.heap.size ≤ D → Sp pre → Ix c pre W → W.heap[D]? = some (.deferred (some [])) → c.wpIn (rnd none) n P Q { a with defers := { target := .collected D, args := #[] } :: a.defers } W) :
    (Code.rangeFunc g ps asg body).wpIn (rnd none) n P Q a w := by
  refine wpIn_rangeFunc ?_
  intro fn hfn
  -- the two blocks of the loop's books: D, for what a round defers; D + 1, its record
  let bk : LoopState → Option Code → Loop := fun s c => { state := s, pending := c, fn, tmps := a.tmps, params := ps, assign := asg, body, defers := w.heap.size }
  let U : World := (w.alloc (.deferred (some []))).alloc (.loop (bk .ready none))
  have hU1 : U.heap[w.heap.size + 1]? = some (.loop (bk .ready none)) := by
    have := World.alloc_heap_new (w.alloc (.deferred (some []))) (.loop (bk .ready none))
    rwa [World.size_alloc] at this
  have hU0 : U.heap[w.heap.size]? = some (.deferred (some [])) := (Below.heap_alloc _ _ _ (by simp)).trans (World.alloc_heap_new w _)
  have hUI : I [] U := hI.alloc _ (hI.alloc _ h0)
  have hUb : Below w.heap.size w U := ((Below.refl _ w).alloc (Nat.le_refl _) _).alloc (by simp) _
  have hUs : U.heap.size = w.heap.size + 2 := by show ((w.alloc _).alloc _).heap.size = _; rw [World.size_alloc, World.size_alloc]
  refine ⟨w.heap.size + 1, [{ target := .collected w.heap.size, args := #[] }], U, { target := .fn (.func gf) lb, args := #[.func (.yield (w.heap.size + 1)) #[] #[]] }, U, gf,
    #[.func (.yield (w.heap.size + 1)) #[] #[]] ++ lb, U, run_enterLoop_outer _ _ _ _ _, ?_, fun _ _ => trivial, ?_, fun e => absurd e noDepth, ?_⟩
  · simp only [resolve, hg]
    simp [go_sem]
  · simp [invoke, go_sem, eg]
  -- the books stand where a walk's record turns
  have books : ∀ {A B : World} {row : Option Nat} {o : Obj} {k : Nat}, A.grownBy B row → (∀ r, row = some r → U.heap.size ≤ r ∧ ∃ o : Obj, A.heap[r]? = some o ∧ o.isWalk = true) → k < w.heap.size + 2 → A.heap[k]? = some o → B.heap[k]? = some o :=
    fun hg' hr hk h => (hg'.block _ (Array.getElem?_eq_some_iff.1 h).1 (fun e => by have := (hr _ e.symm).1; rw [hUs] at this; omega)).trans h
  have walks : ∀ {A : World} {row : Option Nat}, (∀ r, row = some r → U.heap.size ≤ r ∧ ∃ o : Obj, A.heap[r]? = some o ∧ o.isWalk = true) → ∀ r, row = some r → w.heap.size ≤ r ∧ ∃ o : Obj, A.heap[r]? = some o ∧ o.isCells = false :=
    fun hr r e => let ⟨h1, o, h2, h3⟩ := hr r e; ⟨by rw [hUs] at h1; omega, o, h2, Obj.not_cells_of_walk h3⟩
  have hmain := hseq (w.heap.size + 1)
    (fun pre W => I pre W ∧ W.heap[w.heap.size + 1]? = some (.loop (bk .ready none)) ∧ W.heap[w.heap.size]? = some (.deferred (some [])))
    (fun pre W => ∃ c, Ix c pre W ∧ W.heap[w.heap.size + 1]? = some (.loop (bk .done (some c))) ∧ W.heap[w.heap.size]? = some (.deferred (some []))) U hUb
    (fun s A B row hs hg' hr => ⟨hI s A B row hs.1 hg' (walks hr), books hg' hr (by omega) hs.2.1, books hg' hr (by omega) hs.2.2⟩)
    (fun s A B row hs hg' hr => let ⟨c, h1, h2, h3⟩ := hs; ⟨c, hIx c s A B row h1 hg' (walks hr), books hg' hr (by omega) h2, books hg' hr (by omega) h3⟩)
    ?_ ⟨hUI, hU1, hU0⟩
  · refine hmain.mono ?_
    rintro e V ⟨⟨v, rfl⟩, (⟨xs, hS, hi, h1, h2⟩ | ⟨pre, hSp, c, hi, h1, h2⟩)⟩
    · exact ⟨none, _, run_endLoop h1 (by simp [bk]), hdone _ xs _ (Nat.le_refl _) hS (hI.putObj _ hi (by omega) h1 rfl) ((World.putObj_heap_other (by omega)).trans h2)⟩
    · exact ⟨some c, _, run_endLoop h1 (by simp [bk]), hstop _ c pre _ (Nat.le_refl _) hSp ((hIx c).putObj _ hi (by omega) h1 rfl) ((World.putObj_heap_other (by omega)).trans h2)⟩
  · rintro pre x W ⟨hi, h1, h2⟩ hlen
    refine ⟨fn, _, asg, body, run_yield h1 (hps x), roundIn_of_wpIn hfn (wpIn_mono (hround (w.heap.size + 1) pre x W (by omega) hi hlen) fun e a' Wa he => ?_)⟩
    cases e with
    | normal =>
      obtain ⟨hkf, hkp, hb⟩ := he
      have g1 := hkf.same _ _ (by omega) h1 rfl
      have g2 := hkf.same _ _ (Nat.le_refl _) h2 rfl
      have glt := (Array.getElem?_eq_some_iff.1 g1).1
      let Wb : World := Wa.putObj (w.heap.size + 1) (.loop { bk .ready none with state := .busy })
      have b1 : Wb.heap[w.heap.size + 1]? = some (.loop { bk .ready none with state := .busy }) := World.putObj_heap_same glt
      have b2 : Wb.heap[w.heap.size]? = some (.deferred (some [])) := (World.putObj_heap_other (by omega)).trans g2
      have hWb : Kp Wa Wb := hKb _ _ _ (by omega)
      refine ⟨_, run_beginRound g1 rfl, wpIn_mono (hb Wb (grownBy_putObj' Wa _ _) ⟨_, g1, rfl⟩) ?_⟩
      have fin : ∀ (j : Option Code) (V : World), KeepsFrom w.heap.size Wb V →
          (Instr.endRound (w.heap.size + 1) j).run P V = .ok (.bool j.isNone) (V.putObj (w.heap.size + 1) (.loop (bk (if j.isNone then .ready else .done) j))) ∧ V.heap[w.heap.size + 1]? = some (.loop { bk .ready none with state := .busy }) ∧
          (V.putObj (w.heap.size + 1) (.loop (bk (if j.isNone then .ready else .done) j))).heap[w.heap.size + 1]? = some (.loop (bk (if j.isNone then .ready else .done) j)) ∧
          (V.putObj (w.heap.size + 1) (.loop (bk (if j.isNone then .ready else .done) j))).heap[w.heap.size]? = some (.deferred (some [])) := fun j V hk => by
        have v1 := hk.same _ _ (by omega) b1 rfl
        exact ⟨run_endRound j v1, v1, World.putObj_heap_same (Array.getElem?_eq_some_iff.1 v1).1, (World.putObj_heap_other (by omega)).trans (hk.same _ _ (Nat.le_refl _) b2 rfl)⟩
      have leave : ∀ (c : Code) (V : World), KeepsFrom w.heap.size Wb V → Ix c (pre ++ [x]) V → ∃ r V', (Instr.endRound (w.heap.size + 1) (some c)).run P V = .ok r V' ∧
          ((Ending.returned r = .returned (.bool true) ∧ (I (pre ++ [x]) V' ∧ V'.heap[w.heap.size + 1]? = some (.loop (bk .ready none)) ∧ V'.heap[w.heap.size]? = some (.deferred (some []))) ∧ Kp W V') ∨
           (Ending.returned r = .returned (.bool false) ∧ ∃ c, Ix c (pre ++ [x]) V' ∧ V'.heap[w.heap.size + 1]? = some (.loop (bk .done (some c))) ∧ V'.heap[w.heap.size]? = some (.deferred (some [])))) := fun c V hk hx => by
        obtain ⟨r1, r2, r3, r4⟩ := fin (some c) V hk
        exact ⟨_, _, r1, .inr ⟨rfl, c, (hIx c).putObj _ hx (by omega) r2 rfl, r3, r4⟩⟩
      rintro e a3 V hp
      cases e with
      | normal =>
        obtain ⟨hk, hkp3, hi3⟩ := hp
        obtain ⟨r1, r2, r3, r4⟩ := fin none V hk
        exact ⟨_, _, r1, .inl ⟨rfl, ⟨hI.putObj _ hi3 (by omega) r2 rfl, r3, r4⟩, hKt hkp (hKt hWb (hKt hkp3 (hKb _ _ _ (by omega))))⟩⟩
      | ret => exact leave .ret V hp.1 hp.2
      | exit i => exact leave (.exit i) V hp.1 hp.2
      | goto t => exact leave (.goto t) V hp.1 hp.2
      | panic c => exact hp.elim
      | outgrown => exact hp.elim
    | _ => exact he.elim

end Go.Sx
