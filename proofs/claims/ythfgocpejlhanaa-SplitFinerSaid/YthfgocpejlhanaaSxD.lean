/-
  The calculus (SxA): its operations that only read, one by one and together.
-/
import Derived.Test.YthfgocpejlhanaaSxC
namespace Go.Sx

section
variable {P : Program}

theorem wrap_inRange {k : IntKind} {n : Int} (h : inRange k n) : k.wrap n = n := by
  unfold inRange at h
  cases k <;> simp only [IntKind.min, IntKind.max, IntKind.signed, IntKind.bits, Bool.false_eq_true, if_false, if_true] at h <;> simp [IntKind.wrap, IntKind.signed, IntKind.bits] <;> omega

theorem arith_sound {ρ : List Loc} {s : Bool} {k : IntKind} {n : Int} {hs : List Hint} {K : AV → List Hint → Prop} (h : arith s k n hs K) : ∃ z hs', K z hs' ∧ AVR ρ z (.int k (k.wrap n)) := by
  unfold arith at h
  split at h
  · exact ⟨_, _, h, .lit _⟩
  · split at h
    · obtain ⟨hr, h⟩ := h
      exact ⟨_, _, h, by rw [wrap_inRange hr]; exact .int _ _⟩
    · exact ⟨_, _, h, .int _ _⟩

theorem binInt_sound {ρ : List Loc} {op : BinOp} {s s' : Bool} {k k' : IntKind} {x y : Int} {hs : List Hint} {K : AV → List Hint → Prop} (h : binInt op s s' k k' x y hs K) (t : TypeId) :
    ∃ z hs' r, K z hs' ∧ AVR ρ z r ∧ ∀ w, (_root_.Go.binOp op t (.int k x) (.int k' y)).run P w = .ok r w := by
  have sh1 : op = .shl → ∃ z hs' r, K z hs' ∧ AVR ρ z r ∧ ∀ w, (_root_.Go.binOp op t (.int k x) (.int k' y)).run P w = .ok r w := by
    rintro rfl
    simp only [binInt] at h
    obtain ⟨h0, h⟩ := need_iff h
    obtain ⟨z, hs', hk, hz⟩ := arith_sound (ρ := ρ) h
    exact ⟨_, _, _, hk, hz, fun w => by simp [_root_.Go.binOp, Op.shift, Int.not_lt.2 h0]⟩
  have sh2 : op = .shr → ∃ z hs' r, K z hs' ∧ AVR ρ z r ∧ ∀ w, (_root_.Go.binOp op t (.int k x) (.int k' y)).run P w = .ok r w := by
    rintro rfl
    simp only [binInt] at h
    obtain ⟨h0, h⟩ := need_iff h
    exact ⟨_, _, _, h, mkInt_rel _ _ _, fun w => by simp [_root_.Go.binOp, Op.shift, Int.not_lt.2 h0]⟩
  by_cases hk : k = k'
  · subst hk
    cases op <;> simp only [binInt, decide_true, bitsOf, cmpOf] at h
    case shl => exact sh1 rfl
    case shr => exact sh2 rfl
    case add => obtain ⟨z, hs', hk, hz⟩ := arith_sound (ρ := ρ) h; exact ⟨_, _, _, hk, hz, fun w => by simp [_root_.Go.binOp, Op.intArith]⟩
    case sub => obtain ⟨z, hs', hk, hz⟩ := arith_sound (ρ := ρ) h; exact ⟨_, _, _, hk, hz, fun w => by simp [_root_.Go.binOp, Op.intArith]⟩
    case mul => obtain ⟨z, hs', hk, hz⟩ := arith_sound (ρ := ρ) h; exact ⟨_, _, _, hk, hz, fun w => by simp [_root_.Go.binOp, Op.intArith]⟩
    case quo => obtain ⟨h0, h⟩ := need_iff h; obtain ⟨z, hs', hk, hz⟩ := arith_sound (ρ := ρ) h; exact ⟨_, _, _, hk, hz, fun w => by simp [_root_.Go.binOp, Op.intDiv, h0]⟩
    case rem => obtain ⟨h0, h⟩ := need_iff h; exact ⟨_, _, _, h, mkInt_rel _ _ _, fun w => by simp [_root_.Go.binOp, Op.intDiv, h0]⟩
    all_goals first
      | exact ⟨_, _, _, h, mkInt_rel _ _ _, fun w => by simp [_root_.Go.binOp, Op.intBits, Op.intCmp]⟩
      | exact ⟨_, _, _, h, mkBool_rel _ _, fun w => by simp [_root_.Go.binOp, Op.intCmp]⟩
  · cases op <;> simp only [binInt, hk, decide_false] at h
    case shl => exact sh1 rfl
    case shr => exact sh2 rfl

theorem wrap_u64 (n : Int) : IntKind.u64.wrap n = n % 18446744073709551616 := by
  simp [IntKind.wrap, IntKind.bits, IntKind.signed]

theorem ofInt_toNat (x : BitVec 64) : BitVec.ofInt 64 (x.toNat : Int) = x := by
  apply BitVec.eq_of_toNat_eq
  have := x.isLt
  rw [BitVec.toNat_ofInt]
  omega

theorem wrap_toNat (x : BitVec 64) : IntKind.u64.wrap (x.toNat : Int) = (x.toNat : Int) := by
  rw [wrap_u64]; have := x.isLt; omega

theorem w_add (x y : BitVec 64) : IntKind.u64.wrap ((x.toNat : Int) + y.toNat) = ((x + y).toNat : Int) := by
  rw [wrap_u64, BitVec.toNat_add]; omega
theorem w_sub (x y : BitVec 64) : IntKind.u64.wrap ((x.toNat : Int) - y.toNat) = ((x - y).toNat : Int) := by
  rw [wrap_u64, BitVec.toNat_sub]; have := x.isLt; have := y.isLt; omega
theorem w_neg (x : BitVec 64) : IntKind.u64.wrap (0 - (x.toNat : Int)) = ((-x).toNat : Int) := by
  rw [wrap_u64, BitVec.toNat_neg]; have := x.isLt; omega
theorem w_mul (x y : BitVec 64) : IntKind.u64.wrap ((x.toNat : Int) * y.toNat) = ((x * y).toNat : Int) := by
  rw [wrap_u64, BitVec.toNat_mul]; simp
theorem w_quo (x y : BitVec 64) : IntKind.u64.wrap ((x.toNat : Int).tdiv y.toNat) = ((x / y).toNat : Int) := by
  rw [show (x.toNat : Int).tdiv (y.toNat : Int) = ((x / y).toNat : Int) from by rw [BitVec.toNat_udiv]; simp, wrap_toNat]
theorem w_rem (x y : BitVec 64) : (x.toNat : Int).tmod y.toNat = ((x % y).toNat : Int) := by
  rw [BitVec.toNat_umod, Int.tmod_eq_emod_of_nonneg (by omega)]; simp
theorem w_and (x y : BitVec 64) : IntKind.u64.wrap ((BitVec.ofInt IntKind.u64.bits x.toNat &&& BitVec.ofInt IntKind.u64.bits y.toNat).toNat : Int) = ((x &&& y).toNat : Int) := by
  show IntKind.u64.wrap ((BitVec.ofInt 64 x.toNat &&& BitVec.ofInt 64 y.toNat).toNat : Int) = _
  rw [ofInt_toNat, ofInt_toNat, wrap_toNat]
theorem w_or (x y : BitVec 64) : IntKind.u64.wrap ((BitVec.ofInt IntKind.u64.bits x.toNat ||| BitVec.ofInt IntKind.u64.bits y.toNat).toNat : Int) = ((x ||| y).toNat : Int) := by
  show IntKind.u64.wrap ((BitVec.ofInt 64 x.toNat ||| BitVec.ofInt 64 y.toNat).toNat : Int) = _
  rw [ofInt_toNat, ofInt_toNat, wrap_toNat]
theorem w_xor (x y : BitVec 64) : IntKind.u64.wrap ((BitVec.ofInt IntKind.u64.bits x.toNat ^^^ BitVec.ofInt IntKind.u64.bits y.toNat).toNat : Int) = ((x ^^^ y).toNat : Int) := by
  show IntKind.u64.wrap ((BitVec.ofInt 64 x.toNat ^^^ BitVec.ofInt 64 y.toNat).toNat : Int) = _
  rw [ofInt_toNat, ofInt_toNat, wrap_toNat]
theorem w_andNot (x y : BitVec 64) : IntKind.u64.wrap ((BitVec.ofInt IntKind.u64.bits x.toNat &&& ~~~(BitVec.ofInt IntKind.u64.bits y.toNat)).toNat : Int) = ((x &&& ~~~y).toNat : Int) := by
  show IntKind.u64.wrap ((BitVec.ofInt 64 x.toNat &&& ~~~(BitVec.ofInt 64 y.toNat)).toNat : Int) = _
  rw [ofInt_toNat, ofInt_toNat, wrap_toNat]
theorem w_not (x : BitVec 64) : IntKind.u64.wrap ((BitVec.ofInt IntKind.u64.bits (if IntKind.u64.signed then -1 else IntKind.u64.max) ^^^ BitVec.ofInt IntKind.u64.bits x.toNat).toNat : Int) = ((~~~x).toNat : Int) := by
  show IntKind.u64.wrap ((BitVec.ofInt 64 IntKind.u64.max ^^^ BitVec.ofInt 64 x.toNat).toNat : Int) = _
  rw [ofInt_toNat, show BitVec.ofInt 64 IntKind.u64.max = BitVec.allOnes 64 from by decide]
  rw [BitVec.allOnes_xor, wrap_toNat]
theorem w_shl (x : BitVec 64) (n : Nat) : IntKind.u64.wrap ((x.toNat : Int) * 2 ^ (min n 64)) = ((x <<< n).toNat : Int) := by
  rw [wrap_u64, BitVec.toNat_shiftLeft, Nat.shiftLeft_eq]
  rcases Nat.le_total n 64 with h | h
  · rw [Nat.min_eq_left h]; simp
  · rw [Nat.min_eq_right h]
    obtain ⟨d, rfl⟩ : ∃ d, n = 64 + d := ⟨n - 64, by omega⟩
    rw [Nat.pow_add, ← Nat.mul_assoc, Nat.mul_right_comm, Nat.mul_mod_left]
    omega
theorem w_shr (x : BitVec 64) (n : Nat) : (x.toNat : Int).fdiv (2 ^ (min n 64)) = ((x >>> n).toNat : Int) := by
  rw [BitVec.toNat_ushiftRight, Nat.shiftRight_eq_div_pow, Int.fdiv_eq_ediv_of_nonneg _ (by exact Int.pow_nonneg (by decide))]
  rcases Nat.le_total n 64 with h | h
  · rw [Nat.min_eq_left h]; simp
  · rw [Nat.min_eq_right h]
    have hx := x.isLt
    have h1 : x.toNat / 2 ^ n = 0 := Nat.div_eq_of_lt (Nat.lt_of_lt_of_le hx (Nat.pow_le_pow_right (by decide) h))
    rw [h1]
    omega

theorem lt_toNat (x y : BitVec 64) : decide ((x.toNat : Int) < y.toNat) = decide (x < y) := by
  rw [decide_eq_decide, BitVec.lt_def]; omega
theorem le_toNat (x y : BitVec 64) : decide ((x.toNat : Int) ≤ y.toNat) = decide (x ≤ y) := by
  rw [decide_eq_decide, BitVec.le_def]; omega

theorem binW_sound {ρ : List Loc} {op : BinOp} {s' : Bool} {x y : BitVec 64} {K : AV → Prop} (h : binW op s' x y K) (t : TypeId) :
    ∃ z r, K z ∧ AVR ρ z r ∧ ∀ w, (_root_.Go.binOp op t (.int .u64 x.toNat) (.int .u64 y.toNat)).run P w = .ok r w := by
  cases op <;> simp only [binW] at h <;> try exact h.elim
  case add => exact ⟨_, _, h, .w64 _, fun w => by simp only [_root_.Go.binOp, Op.intArith, ← w_add]; rfl⟩
  case sub => exact ⟨_, _, h, .w64 _, fun w => by simp only [_root_.Go.binOp, Op.intArith, ← w_sub]; rfl⟩
  case mul => exact ⟨_, _, h, .w64 _, fun w => by simp only [_root_.Go.binOp, Op.intArith, ← w_mul]; rfl⟩
  case quo =>
    obtain ⟨h0, h⟩ := need_iff h
    have : (y.toNat : Int) ≠ 0 := fun e => h0 (BitVec.eq_of_toNat_eq (by simpa using e))
    exact ⟨_, _, h, .w64 _, fun w => by simp only [_root_.Go.binOp, Op.intDiv, if_neg this, ← w_quo]; rfl⟩
  case rem =>
    obtain ⟨h0, h⟩ := need_iff h
    have : (y.toNat : Int) ≠ 0 := fun e => h0 (BitVec.eq_of_toNat_eq (by simpa using e))
    exact ⟨_, _, h, .w64 _, fun w => by simp only [_root_.Go.binOp, Op.intDiv, if_neg this, ← w_rem]; rfl⟩
  case and => exact ⟨_, _, h, .w64 _, fun w => congrArg (fun n => Result.ok (Value.int .u64 n) w) (w_and x y)⟩
  case or => exact ⟨_, _, h, .w64 _, fun w => congrArg (fun n => Result.ok (Value.int .u64 n) w) (w_or x y)⟩
  case xor => exact ⟨_, _, h, .w64 _, fun w => congrArg (fun n => Result.ok (Value.int .u64 n) w) (w_xor x y)⟩
  case andNot => exact ⟨_, _, h, .w64 _, fun w => congrArg (fun n => Result.ok (Value.int .u64 n) w) (w_andNot x y)⟩
  case eql => exact ⟨_, _, h, .bool _, fun w => by simp [_root_.Go.binOp, Op.intCmp, beq_toNat]⟩
  case neq => exact ⟨_, _, h, .bool _, fun w => by simp [_root_.Go.binOp, Op.intCmp, bne, beq_toNat]⟩
  case lss => exact ⟨_, _, h, .bool _, fun w => by simp only [_root_.Go.binOp, Op.intCmp, ← lt_toNat]; rfl⟩
  case leq => exact ⟨_, _, h, .bool _, fun w => by simp only [_root_.Go.binOp, Op.intCmp, ← le_toNat]; rfl⟩
  case gtr => exact ⟨_, _, h, .bool _, fun w => by simp only [_root_.Go.binOp, Op.intCmp, ← lt_toNat]; rfl⟩
  case geq => exact ⟨_, _, h, .bool _, fun w => by simp only [_root_.Go.binOp, Op.intCmp, ← le_toNat]; rfl⟩

theorem binShift_sound {ρ : List Loc} {op : BinOp} {x : BitVec 64} {s : Bool} {k : IntKind} {n : Int} {K : AV → Prop}
    (h : binSh op s x n K) (t : TypeId) : ∃ z r, K z ∧ AVR ρ z r ∧ ∀ w, (_root_.Go.binOp op t (.int .u64 x.toNat) (.int k n)).run P w = .ok r w := by
  unfold binSh at h
  split at h
  · obtain ⟨h0, h⟩ := need_iff h
    refine ⟨_, _, h, .w64 _, fun w => ?_⟩
    simp only [_root_.Go.binOp, Op.shift, Int.not_lt.2 h0, if_false, IntKind.bits, ← w_shl]; rfl
  · obtain ⟨h0, h⟩ := need_iff h
    refine ⟨_, _, h, .w64 _, fun w => ?_⟩
    simp only [_root_.Go.binOp, Op.shift, Int.not_lt.2 h0, if_false, IntKind.bits, ← w_shr]; rfl
  · exact h.elim

theorem eqGuard_int (op : BinOp) (t : TypeId) (xo yo : Operand) (k k' : IntKind) (a b : Int) (w : World) : (eqGuard op t xo yo (.int k a) (.int k' b)).run P w = .ok () w := by
  unfold eqGuard; split <;> simp

theorem eqGuard_other (op : BinOp) (t : TypeId) (xo yo : Operand) (u v : Value) (w : World) (hn : (match u, v with | .nilIface, .nilIface => false | .agg _, .agg _ => !P.eqGuardType P.depth t | _, _ => true) = true) : (eqGuard op t xo yo u v).run P w = .ok () w := by
  have h0 : ∀ op', (eqGuard op' t xo yo u v).run P w = .ok () w ∨ op' = .eql ∨ op' = .neq := by
    intro op'
    cases op' <;> first | exact .inr (.inl rfl) | exact .inr (.inr rfl) | (left; simp [eqGuard]; done)
  rcases h0 op with h | rfl | rfl
  · exact h
  all_goals
    unfold eqGuard
    dsimp only
    split at hn
    · simp at hn
    · simp at hn
      simp [hn]
    · rename_i h1 h2
      simp only [Bool.not_true, Bool.false_eq_true, if_false]
      rfl

theorem equal_nil_l {t e : TypeId} (ht : P.underlying t = some (.slice e)) (n m n' m' : Nat) (b : Option Addr) (D : Nat) (w : World) :
    (Op.equalIn (D + 1) t (.slice none n m) (.slice b n' m')).run P w = .ok b.isNone w := by
  simp [Op.equalIn, run_und ht]

theorem equal_nil_r {t e : TypeId} (ht : P.underlying t = some (.slice e)) (n m n' m' : Nat) (b : Option Addr) (D : Nat) (w : World) :
    (Op.equalIn (D + 1) t (.slice b n m) (.slice none n' m')).run P w = .ok b.isNone w := by
  cases b <;> simp [Op.equalIn, run_und ht]

theorem eqV_sound {ρ : List Loc} {t : TypeId} {x y : AV} {u v : Value} {b : Bool} (h : eqV P t x y = some b) (hx : AVR ρ x u) (hy : AVR ρ y v) (w : World) :
    (_root_.Go.binOp .eql t u v).run P w = .ok (.bool b) w ∧ (_root_.Go.binOp .neq t u v).run P w = .ok (.bool (!b)) w ∧ ∀ op xo yo, (eqGuard op t xo yo u v).run P w = .ok () w := by
  unfold eqV at h
  have agg : ∀ xs ys, x = .agg xs → y = .agg ys → P.eqGuardType P.depth t = false → eqT P 8 t x y = some b → (_root_.Go.binOp .eql t u v).run P w = .ok (.bool b) w ∧ (_root_.Go.binOp .neq t u v).run P w = .ok (.bool (!b)) w ∧ ∀ op xo yo, (eqGuard op t xo yo u v).run P w = .ok () w := by
    rintro xs ys rfl rfl hg he
    have h1 := eqT_sound 8 he hx hy 10000 (by omega) w
    cases hx with
    | agg hx => cases hy with
      | agg hy =>
        refine ⟨by rw [run_eql_struct, h1]; rfl, by rw [run_neq_struct, h1]; rfl, fun op xo yo => eqGuard_other op t xo yo _ _ w (by simp [hg])⟩
  split at h
  · rename_i e ht
    have key : ∀ (a c : Option Addr) n m n' m', u = .slice a n m → v = .slice c n' m' → (Op.equal t u v).run P w = .ok b w →
        (_root_.Go.binOp .eql t u v).run P w = .ok (.bool b) w ∧ (_root_.Go.binOp .neq t u v).run P w = .ok (.bool (!b)) w ∧ ∀ op xo yo, (eqGuard op t xo yo u v).run P w = .ok () w := by
      rintro a c n m n' m' rfl rfl he
      exact ⟨by simp [_root_.Go.binOp, he], by simp [_root_.Go.binOp, he], fun op xo yo => eqGuard_other op t xo yo _ _ w rfl⟩
    have nilS : ∀ {x : AV} {u : Value} {c : Bool}, x.nilSlice = some c → AVR ρ x u → ∃ a n m, u = .slice a n m ∧ a.isNone = c := by
      intro x u c hc hr
      unfold AV.nilSlice at hc
      split at hc <;> simp at hc <;> subst hc
      · cases hr; exact ⟨_, _, _, rfl, rfl⟩
      · cases hr; exact ⟨_, _, _, rfl, rfl⟩
    split at h
    · rename_i c h1 h2
      obtain ⟨a, n, m, rfl, ha⟩ := nilS h1 hx
      obtain ⟨a', n', m', rfl, ha'⟩ := nilS h2 hy
      simp at h; subst h
      cases a <;> simp at ha
      exact key _ _ _ _ _ _ rfl rfl (by rw [← ha']; exact equal_nil_l ht _ _ _ _ _ 9999 w)
    · rename_i c h0 h1 h2
      obtain ⟨a, n, m, rfl, ha⟩ := nilS h1 hx
      obtain ⟨a', n', m', rfl, ha'⟩ := nilS h2 hy
      simp at h; subst h
      cases a' <;> simp at ha'
      exact key _ _ _ _ _ _ rfl rfl (by rw [← ha]; exact equal_nil_r ht _ _ _ _ _ 9999 w)
    · simp at h
  · rename_i fs ht
    split at h
    · simp at h
    · rename_i hg
      have he := h
      unfold eqT at h
      simp only [ht] at h
      split at h
      · simp at h
      · split at h
        · exact agg _ _ rfl rfl hg he
        · simp at h
  · rename_i n e ht
    split at h
    · simp at h
    · rename_i hg
      have he := h
      unfold eqT at h
      simp only [ht] at h
      split at h
      · exact agg _ _ rfl rfl hg he
      · simp at h
  · rename_i dsc h1 h2 h3 ht
    have he := eqT_sound 8 h hx hy 10000 (by omega) w
    unfold eqT at h
    rw [ht] at h
    have hc : eqCell dsc x y = some b := by
      split at h <;> simp_all
    unfold eqCell at hc
    split at hc
    · split at hc
      · rename_i g1 g2
        rw [asBool_rel hx g1, asBool_rel hy g2] at he ⊢
        exact ⟨by simp [_root_.Go.binOp, Op.equal, Op.maxDepth, he], by simp [_root_.Go.binOp, Op.equal, Op.maxDepth, he], fun op xo yo => eqGuard_other op t xo yo _ _ w rfl⟩
      · simp at hc
    · split at hc
      · rename_i g1 g2
        simp at hc; subst hc
        rw [asW_rel hx g1, asW_rel hy g2] at he ⊢
        exact ⟨by simp [_root_.Go.binOp, Op.intCmp, beq_toNat], by simp [_root_.Go.binOp, Op.intCmp, bne, beq_toNat], fun op xo yo => eqGuard_other op t xo yo _ _ w rfl⟩
      · split at hc
        · rename_i g1 g2
          split at hc
          · rename_i hk
            have hk := of_decide_eq_true hk
            subst hk
            simp at hc; subst hc
            rw [asInt_rel hx g1, asInt_rel hy g2] at he ⊢
            exact ⟨by simp [_root_.Go.binOp, Op.intCmp], by simp [_root_.Go.binOp, Op.intCmp, bne], fun op xo yo => eqGuard_other op t xo yo _ _ w rfl⟩
          · simp at hc
        · simp at hc
    · split at hc
      · rename_i g1 g2
        simp at hc; subst hc
        rw [asStr_rel hx g1, asStr_rel hy g2] at he ⊢
        exact ⟨by simp [_root_.Go.binOp, Op.stringOp, beq_toListBytes], by simp [_root_.Go.binOp, Op.stringOp, beq_toListBytes], fun op xo yo => eqGuard_other op t xo yo _ _ w rfl⟩
      · simp at hc
    · have ptr : ∀ {c d : Bool}, x.nilPtr = some c → y.nilPtr = some d → (_root_.Go.binOp .eql t u v).run P w = .ok (.bool b) w ∧ (_root_.Go.binOp .neq t u v).run P w = .ok (.bool (!b)) w ∧ ∀ op xo yo, (eqGuard op t xo yo u v).run P w = .ok () w := fun g1 g2 => by
        obtain ⟨p, rfl, _⟩ := nilPtr_rel g1 hx
        obtain ⟨q, rfl, _⟩ := nilPtr_rel g2 hy
        exact ⟨by simp [_root_.Go.binOp, Op.equal, Op.maxDepth, he], by simp [_root_.Go.binOp, Op.equal, Op.maxDepth, he], fun op xo yo => eqGuard_other op t xo yo _ _ w rfl⟩
      split at hc
      · rename_i c g1; exact ptr g1 (d := true) rfl
      · rename_i g1; exact ptr g1 hc
      · simp at hc
    · have fnc : ∀ {c d : Bool}, x.nilFn = some c → y.nilFn = some d → (_root_.Go.binOp .eql t u v).run P w = .ok (.bool b) w ∧ (_root_.Go.binOp .neq t u v).run P w = .ok (.bool (!b)) w ∧ ∀ op xo yo, (eqGuard op t xo yo u v).run P w = .ok () w := fun g1 g2 => by
        rcases nilFn_rel g1 hx with ⟨_, rfl⟩ | ⟨_, f, f1, f2, rfl⟩ <;> rcases nilFn_rel g2 hy with ⟨_, rfl⟩ | ⟨_, g, g3, g4, rfl⟩ <;>
          exact ⟨by simp [_root_.Go.binOp, Op.equal, Op.maxDepth, he], by simp [_root_.Go.binOp, Op.equal, Op.maxDepth, he], fun op xo yo => eqGuard_other op t xo yo _ _ w rfl⟩
      split at hc
      · rename_i g1 g2; exact fnc g2 g1
      · rename_i g1 g2; exact fnc g2 g1
      · simp at hc
    · simp at hc
  · simp at h

theorem vslEq_sound {ρ : List Loc} {neg : Bool} {t : TypeId} {x y : AV} {u v : Value} {hs : List Hint} {K : AV → List Hint → Prop} (h : vslEq P neg t x y hs K) (hx : AVR ρ x u) (hy : AVR ρ y v) :
    ∃ z hs' b, K z hs' ∧ AVR ρ z (.bool (b != neg)) ∧ ∀ w, (_root_.Go.binOp .eql t u v).run P w = .ok (.bool b) w ∧ (_root_.Go.binOp .neq t u v).run P w = .ok (.bool (!b)) w ∧ ∀ op xo yo, (eqGuard op t xo yo u v).run P w = .ok () w := by
  unfold vslEq at h
  split at h
  · split at h
    · rename_i b c hb hc
      cases hx with
      | vslS h1 h2 h3 h4 => exact ⟨_, _, b, h.2, .lit _, fun w => eqV_sound hb (.slice h1 h2 h3 h4) hy w⟩
      | vslN h0 => exact ⟨_, _, c, h.1 h0, .lit _, fun w => eqV_sound hc (.lit _) hy w⟩
    · exact h.elim
  · exact h.elim

theorem binOp_sound {ρ : List Loc} {op : BinOp} {t : TypeId} {x y : AV} {u v : Value} {hs : List Hint} {K : AV → List Hint → Prop} (h : binOp P op t x y hs K) (hx : AVR ρ x u) (hy : AVR ρ y v) (xo yo : Operand) :
    ∃ z hs' r, K z hs' ∧ AVR ρ z r ∧ ∀ w, (do eqGuard op t xo yo u v; _root_.Go.binOp op t u v : Sem Value).run P w = .ok r w := by
  unfold binOp at h
  split at h
  · rename_i k _ ho h1 h2
    rw [asW_rel hx h1, asInt_rel hy h2]
    obtain ⟨z, r, hk, hz, hr⟩ := binShift_sound (P := P) (ρ := ρ) (k := k) h t
    exact ⟨z, _, r, hk, hz, fun w => by simp [eqGuard_int, hr]⟩
  · rename_i k _ ho h1 h2
    rw [asW_rel hx h1, asInt_rel hy h2]
    obtain ⟨z, r, hk, hz, hr⟩ := binShift_sound (P := P) (ρ := ρ) (k := k) h t
    exact ⟨z, _, r, hk, hz, fun w => by simp [eqGuard_int, hr]⟩
  · rename_i ho h1 h2
    rw [asW_rel hx h1, asW_rel hy h2]
    obtain ⟨z, r, hk, hz, hr⟩ := binW_sound (P := P) (ρ := ρ) h t
    exact ⟨z, _, r, hk, hz, fun w => by simp [eqGuard_int, hr]⟩
  · rename_i ho h1 h2
    rw [asW_rel hx h1, asW_rel hy h2]
    obtain ⟨z, r, hk, hz, hr⟩ := binW_sound (P := P) (ρ := ρ) h t
    exact ⟨z, _, r, hk, hz, fun w => by simp [eqGuard_int, hr]⟩
  · rename_i h1 h2 _ _ _ _
    rw [asInt_rel hx h1, asInt_rel hy h2]
    obtain ⟨z, hs', r, hk, hz, hr⟩ := binInt_sound (P := P) (ρ := ρ) h t
    exact ⟨z, hs', r, hk, hz, fun w => by simp [eqGuard_int, hr]⟩
  · split at h
    · split at h
      · rename_i b hb
        exact ⟨_, _, _, h, .bool b, fun w => by have := eqV_sound hb hx hy w; simp [this.2.2, this.1]⟩
      · obtain ⟨z, hs', b, hk, hz, hr⟩ := vslEq_sound h hx hy
        exact ⟨z, hs', _, hk, hz, fun w => by simp [(hr w).2.2, (hr w).1]⟩
    · split at h
      · rename_i b hb
        exact ⟨_, _, _, h, .bool (!b), fun w => by have := eqV_sound hb hx hy w; simp [this.2.2, this.2.1]⟩
      · obtain ⟨z, hs', b, hk, hz, hr⟩ := vslEq_sound h hx hy
        exact ⟨z, hs', _, hk, hz, fun w => by simp [(hr w).2.2, (hr w).2.1]⟩
    · split at h
      · rename_i c1 b1 c2 b2 h1 h2
        obtain ⟨hl, hk⟩ := need_iff h
        rw [asStr_rel hx h1, asStr_rel hy h2]
        refine ⟨_, _, _, hk, mkStr_rel _ _, fun w => ?_⟩
        have hm : IntKind.i64.max = 9223372036854775807 := by decide
        have hc : ¬ (((b1.size + b2.size : Nat) : Int) > 9223372036854775807) := by omega
        simp [eqGuard, _root_.Go.binOp, Op.stringOp, hm]
        omega
      · exact h.elim
    · exact h.elim

theorem unOp_sound {ρ : List Loc} {op : UnOp} {x : AV} {u : Value} {K : AV → Prop} (h : unOp op x K) (hx : AVR ρ x u) :
    ∃ z r, K z ∧ AVR ρ z r ∧ ∀ w, (Op.unary op u).run P w = .ok r w := by
  unfold unOp at h
  split at h
  · split at h
    · rename_i x' h1
      rw [asW_rel hx h1]
      exact ⟨_, _, h, .w64 _, fun w => by simp only [Op.unary, Op.intArith, ← w_neg]; rfl⟩
    · split at h
      · rename_i h1
        rw [asInt_rel hx h1]
        exact ⟨_, _, h, mkInt_rel _ _ _, fun w => by simp [Op.unary, Op.intArith]⟩
      · exact h.elim
  · split at h
    · rename_i x' h1
      rw [asW_rel hx h1]
      exact ⟨_, _, h, .w64 _, fun w => congrArg (fun n => Result.ok (Value.int .u64 n) w) (w_not x')⟩
    · split at h
      · rename_i h1
        rw [asInt_rel hx h1]
        exact ⟨_, _, h, mkInt_rel _ _ _, fun w => by simp [Op.unary, Op.intBits]⟩
      · exact h.elim
  · split at h
    · rename_i h1
      rw [asBool_rel hx h1]
      exact ⟨_, _, h, mkBool_rel _ _, fun w => by simp [Op.unary]⟩
    · exact h.elim
  · exact h.elim

theorem fillAt_length : ∀ (l : List AV) (cs : List AV) (o : Nat), (fillAt cs o l).length = cs.length
  | [], _, _ => rfl
  | v :: l, cs, o => by simp [fillAt, fillAt_length l]

def fillV (cs : List Value) (o : Nat) : List Value → List Value
  | [] => cs
  | v :: vs => fillV (cs.set o v) (o + 1) vs

theorem AVRs.set {ρ : List Loc} : ∀ {xs : List AV} {vs : List Value} (o : Nat) {x : AV} {v : Value}, AVRs ρ xs vs → AVR ρ x v → AVRs ρ (xs.set o x) (vs.set o v)
  | _, _, _, _, _, .nil, _ => .nil
  | _, _, 0, _, _, .cons _ h, h' => .cons h' h
  | _, _, o + 1, _, _, .cons h0 h, h' => .cons h0 (AVRs.set o h h')

theorem fillAt_rel {ρ : List Loc} : ∀ {l : List AV} {us : List Value} {cs : List AV} {vs : List Value} (o : Nat), AVRs ρ l us → AVRs ρ cs vs → AVRs ρ (fillAt cs o l) (fillV vs o us)
  | _, _, _, _, _, .nil, h => h
  | _, _, _, _, o, .cons h0 h1, h => fillAt_rel (o + 1) h1 (h.set o h0)

theorem fillV_foldl : ∀ (l : List Value) (vs : Array Value) (o j : Nat), (l.zipIdx j).foldl (fun (cs : Array Value) (p : Value × Nat) => cs.setIfInBounds (o + p.2) p.1) vs = (fillV vs.toList (o + j) l).toArray
  | [], vs, o, j => by simp [fillV]
  | v :: l, vs, o, j => by
    rw [List.zipIdx_cons, List.foldl_cons, fillV_foldl l]
    simp [fillV, Nat.add_assoc]

theorem fillV_length : ∀ (l : List Value) (cs : List Value) (o : Nat), (fillV cs o l).length = cs.length
  | [], _, _ => rfl
  | v :: l, cs, o => by simp [fillV, fillV_length l]

theorem fill_sound {ρ : List Loc} {place : Nat → Option (Nat × Nat)} : ∀ {parts : List (Nat × AV)} {vals : List (Nat × Value)} {cs : List AV} {vs : List Value} {r : List AV},
    fill place cs parts = some r → AVRs ρ cs vs → parts.map (·.1) = vals.map (·.1) → AVRs ρ (parts.map (·.2)) (vals.map (·.2)) → (parts.all fun p => p.2.sound) = true →
    ∃ us, AVRs ρ r us ∧ Instr.fill place vs.toArray vals = some us.toArray
  | [], [], cs, vs, r, h, hr, _, _, _ => by simp [fill] at h; subst h; exact ⟨vs, hr, rfl⟩
  | [], _ :: _, _, _, _, _, _, h, _, _ => by simp at h
  | _ :: _, [], _, _, _, _, _, h, _, _ => by simp at h
  | (i, x) :: parts, (j, v) :: vals, cs, vs, r, h, hr, hi, hv, hs => by
    simp only [List.map_cons, List.cons.injEq] at hi
    obtain ⟨rfl, hi⟩ := hi
    simp only [List.map_cons] at hv
    simp only [List.all_cons, Bool.and_eq_true] at hs
    cases hv with
    | cons hv0 hv1 =>
      have hc := AVR.cells hs.1 hv0
      unfold fill at h
      unfold Instr.fill
      split at h
      · simp at h
      · rename_i off size hp
        simp only [hp]
        split at h
        · rename_i h1 h2
          have h1 := of_decide_eq_true h1
          have h2 := of_decide_eq_true h2
          have e1 : v.cells.size = size := by have := hc.length; simp at this; omega
          have e2 : ¬ (off + v.cells.size > vs.toArray.size) := by have := hr.length; have := hc.length; simp at this ⊢; omega
          have := fill_sound h (fillAt_rel off hc hr) hi hv1 hs.2
          obtain ⟨us, hus, hf⟩ := this
          refine ⟨us, hus, ?_⟩
          simp only [e1, ne_eq, not_true, decide_false, Bool.false_or]
          rw [if_neg (by rw [← e1]; simpa using e2), ← hf]
          congr 1
          rw [← Array.foldl_toList, Array.toList_zipIdx]
          have := fillV_foldl v.cells.toList vs.toArray off 0
          simpa using this
        · simp at h

theorem zeroOf_info {t : TypeId} {z : AV} (h : zeroOf P t = some z) : ∃ i zv, P.info? t = some i ∧ i.zero = some zv ∧ zv.cells.size = i.size ∧ z = liftV zv := by
  unfold zeroOf at h
  split at h
  · rename_i i hi
    split at h
    · rename_i zv hz
      split at h
      · rename_i hs
        simp at h
        exact ⟨i, zv, hi, hz, of_decide_eq_true hs, h.symm⟩
      · simp at h
    · simp at h
  · simp at h

theorem run_zero {t : TypeId} {i : TypeInfo} {zv : Value} (hi : P.info? t = some i) (hz : i.zero = some zv) (w : World) : (zeroValue t).run P w = .ok zv w := by
  simp [zeroValue, run_tinfo hi, hz]

theorem liftV_cells {ρ : List Loc} (v : Value) : AVRs ρ (liftV v).cells v.cells.toList := by
  cases v <;> first | exact .cons (.lit _) .nil | skip
  rename_i cs
  simpa [liftV, AV.cells, Value.cells] using AVRs.map_lit (ρ := ρ) cs.toList

theorem mapM_sizes {fs : List Field} {places : List (Nat × Nat)} (h : allSome (fs.map fun f => match sizeAt P f.type with | some s => some (f.offset, s) | none => none) = some places) (w : World) :
    (fs.mapM fun f => (do pure (f.offset, ← sizeOf f.type) : Sem (Nat × Nat))).run P w = .ok places w := by
  induction fs generalizing places with
  | nil => simp [allSome] at h; subst h; simp
  | cons f fs ih =>
    simp only [List.map_cons] at h
    cases hs : sizeAt P f.type with
    | none => simp [hs, allSome] at h
    | some s =>
      simp only [hs, allSome] at h
      split at h
      · rename_i r hr
        simp at h; subst h
        have := ih hr
        simp at this
        simp [List.mapM_cons, run_size hs, this]
      · simp at h

theorem build_sound {ρ : List Loc} {t : TypeId} {parts : List (Nat × AV)} {vals : List (Nat × Value)} {K : AV → Prop} (h : build P t parts K)
    (hi : parts.map (·.1) = vals.map (·.1)) (hv : AVRs ρ (parts.map (·.2)) (vals.map (·.2))) :
    ∃ z r, K z ∧ AVR ρ z r ∧ ∀ w, (Instr.build t vals.toArray).run P w = .ok r w := by
  unfold build at h
  split at h
  · exact h.elim
  · rename_i hs
    split at h
    · rename_i fs z ht hz
      obtain ⟨i, zv, hin, hzv, hzs, rfl⟩ := zeroOf_info hz
      split at h
      · rename_i places hp
        split at h
        · rename_i cs hf
          obtain ⟨us, hus, hfv⟩ := fill_sound hf (liftV_cells (ρ := ρ) zv) hi hv hs
          refine ⟨_, _, h, .agg hus, fun w => ?_⟩
          have hm := mapM_sizes hp w
          have hm' : (Array.mapM (fun f => (do pure (f.offset, ← sizeOf f.type) : Sem (Nat × Nat))) fs).run P w = .ok places.toArray w := by
            rw [Array.mapM_eq_mapM_toList, Sem.run_map, hm]
            simp
          simp only [Instr.build, Sem.run_bind, run_zero hin hzv, Result.andThen_ok, run_und ht, hm']
          simp only [List.getElem?_toArray, Array.toArray_toList] at hfv ⊢
          simp [hfv]
        · exact h.elim
      · exact h.elim
    · rename_i n e z ht hz
      obtain ⟨i, zv, hin, hzv, hzs, rfl⟩ := zeroOf_info hz
      split at h
      · rename_i s hsz
        split at h
        · rename_i cs hf
          obtain ⟨us, hus, hfv⟩ := fill_sound hf (liftV_cells (ρ := ρ) zv) hi hv hs
          refine ⟨_, _, h, .agg hus, fun w => ?_⟩
          simp only [Instr.build, Sem.run_bind, run_zero hin hzv, Result.andThen_ok, run_und ht, run_size hsz]
          simp only [Array.toArray_toList] at hfv ⊢
          simp [hfv]
        · exact h.elim
      · exact h.elim
    · exact h.elim

end
end Go.Sx
