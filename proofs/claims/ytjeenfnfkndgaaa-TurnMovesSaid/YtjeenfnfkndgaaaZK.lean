/- The evaluator speaks true of operations, third part: operators, stores into blocks, slices, append. -/
import Derived.Test.YtjeenfnfkndgaaaZJ
import Derived.OwnWalkIn
import Derived.Deep.AppendLies
import Derived.ChangeKeysEq
namespace Go.Sz
open Go Go.RowKit
noncomputable section
section
variable {P : Program} {T : Tab} {η : Env} {ρ ρ' : Plc} {w w' : World} {Z Z' : Nat → Prop} {ev : Operand → Option SV} {bk : BK} {E : Operand → Value} {p : Nat → Bool} {nid : Nat} {o : Oper} {e : Eff} {q : List X} {pc : PC}
  {dst : Option Tmp} {ty : TypeId} {pos : String} {aft : Array Edge} {gd : Option (Nat × Bool)}
theorem binS_good {op : BinOp} {k : IntKind} {a b : X} (h : binS op k a b = some (e, q)) (hq : ∀ x ∈ q, (x.d T η).bool = true) (w : World) :
    ∃ v v', e = { v } ∧ v.V T η ρ w Z v' ∧ ∀ t, (binOp op t (.int k (a.d T η).int) (.int k (b.d T η).int)).run P w = .ok v' w ∧ ∀ x y, (eqGuard op t x y (.int k (a.d T η).int) (.int k (b.d T η).int)).run P w = .ok () w := by
  have hg : ∀ t x y, (eqGuard op t x y (.int k (a.d T η).int) (.int k (b.d T η).int)).run P w = .ok () w := by
    intro t x y; unfold eqGuard; cases op <;> simp
  have nz : (∀ x ∈ needs [mk1 .not (mk2 .eq b (.lit (.i 0)))], (x.d T η).bool = true) → (b.d T η).int ≠ 0 := by
    intro hq
    have := needs_mem hq (mk1 .not (mk2 .eq b (.lit (.i 0)))) (by simp)
    simpa [mk1_d, mk2_d, den1, den2, X.d] using this
  unfold binS at h
  cases op <;> simp only at h <;> try (cases h; done)
  case add => exact ⟨_, .int k (k.wrap ((a.d T η).int + (b.d T η).int)), okv_eq h, by simp [SV.V, S1.V, Sc.V, mk2_d, den2], fun t => ⟨by simp [binOp, Op.intArith], hg t⟩⟩
  case sub => exact ⟨_, .int k (k.wrap ((a.d T η).int - (b.d T η).int)), okv_eq h, by simp [SV.V, S1.V, Sc.V, mk2_d, den2], fun t => ⟨by simp [binOp, Op.intArith], hg t⟩⟩
  case mul => exact ⟨_, .int k (k.wrap ((a.d T η).int * (b.d T η).int)), okv_eq h, by simp [SV.V, S1.V, Sc.V, mk2_d, den2], fun t => ⟨by simp [binOp, Op.intArith], hg t⟩⟩
  case quo =>
    simp only [Option.some.injEq, Prod.mk.injEq] at h; obtain ⟨rfl, rfl⟩ := h
    exact ⟨_, .int k (k.wrap ((a.d T η).int.tdiv (b.d T η).int)), rfl, by simp [SV.V, S1.V, Sc.V, mk2_d, den2], fun t => ⟨by simp [binOp, Op.intDiv, nz hq], hg t⟩⟩
  case rem =>
    simp only [Option.some.injEq, Prod.mk.injEq] at h; obtain ⟨rfl, rfl⟩ := h
    exact ⟨_, .int k ((a.d T η).int.tmod (b.d T η).int), rfl, by simp [SV.V, S1.V, Sc.V, mk2_d, den2], fun t => ⟨by simp [binOp, Op.intDiv, nz hq], hg t⟩⟩
  case and => exact ⟨_, .int k (k.wrap (BitVec.ofInt k.bits (a.d T η).int &&& BitVec.ofInt k.bits (b.d T η).int).toNat), okv_eq h, by simp only [SV.V, S1.V, Sc.V, mk2_d, den2, D.int_i], fun t => ⟨by simp only [binOp, Op.intBits, ne_eq, not_true_eq_false, if_false, Sem.run_pure], hg t⟩⟩
  case or => exact ⟨_, .int k (k.wrap (BitVec.ofInt k.bits (a.d T η).int ||| BitVec.ofInt k.bits (b.d T η).int).toNat), okv_eq h, by simp only [SV.V, S1.V, Sc.V, mk2_d, den2, D.int_i], fun t => ⟨by simp only [binOp, Op.intBits, ne_eq, not_true_eq_false, if_false, Sem.run_pure], hg t⟩⟩
  case xor => exact ⟨_, .int k (k.wrap (BitVec.ofInt k.bits (a.d T η).int ^^^ BitVec.ofInt k.bits (b.d T η).int).toNat), okv_eq h, by simp only [SV.V, S1.V, Sc.V, mk2_d, den2, D.int_i], fun t => ⟨by simp only [binOp, Op.intBits, ne_eq, not_true_eq_false, if_false, Sem.run_pure], hg t⟩⟩
  case andNot => exact ⟨_, .int k (k.wrap (BitVec.ofInt k.bits (a.d T η).int &&& ~~~(BitVec.ofInt k.bits (b.d T η).int)).toNat), okv_eq h, by simp only [SV.V, S1.V, Sc.V, mk2_d, den2, D.int_i], fun t => ⟨by simp only [binOp, Op.intBits, ne_eq, not_true_eq_false, if_false, Sem.run_pure], hg t⟩⟩
  case eql => exact ⟨_, .bool ((a.d T η).int == (b.d T η).int), okv_eq h, by simp [SV.V, S1.V, Sc.V, mk2_d, den2], fun t => ⟨by simp [binOp, Op.intCmp], hg t⟩⟩
  case neq => exact ⟨_, .bool (!((a.d T η).int == (b.d T η).int)), okv_eq h, by simp [SV.V, S1.V, Sc.V, mk1_d, den1, mk2_d, den2], fun t => ⟨by simp [binOp, Op.intCmp, bne], hg t⟩⟩
  case lss => exact ⟨_, .bool (decide ((a.d T η).int < (b.d T η).int)), okv_eq h, by simp [SV.V, S1.V, Sc.V, mk2_d, den2], fun t => ⟨by simp [binOp, Op.intCmp], hg t⟩⟩
  case leq => exact ⟨_, .bool (decide ((a.d T η).int ≤ (b.d T η).int)), okv_eq h, by simp [SV.V, S1.V, Sc.V, mk2_d, den2], fun t => ⟨by simp [binOp, Op.intCmp], hg t⟩⟩
  case gtr => exact ⟨_, .bool (decide ((b.d T η).int < (a.d T η).int)), okv_eq h, by simp [SV.V, S1.V, Sc.V, mk2_d, den2], fun t => ⟨by simp [binOp, Op.intCmp], hg t⟩⟩
  case geq => exact ⟨_, .bool (decide ((b.d T η).int ≤ (a.d T η).int)), okv_eq h, by simp [SV.V, S1.V, Sc.V, mk2_d, den2], fun t => ⟨by simp [binOp, Op.intCmp], hg t⟩⟩
theorem binInt_good (hs : Sees T η ρ w Z ev bk E p) {op : BinOp} {t yt : TypeId} {x y : Operand} {k k' : IntKind} {a b : X} (hx : ev x = some (.v (.one (.int k a)))) (hy : ev y = some (.v (.one (.int k' b)))) (h : binInt op k a k' b = some (e, q)) (hq : ∀ x ∈ q, (x.d T η).bool = true) :
    Good P T η ρ w Z bk E nid ⟨dst, .binOp op t x y yt, ty, pos, aft, gd⟩ e := by
  have h1 : E x = .int k (a.d T η).int := hs.ev _ _ hx
  have h2 : E y = .int k' (b.d T η).int := hs.ev _ _ hy
  unfold binInt at h
  split at h
  · simp only [Option.some.injEq, Prod.mk.injEq] at h; obtain ⟨rfl, rfl⟩ := h
    have q1 := le_of (needs_mem hq (mk2 .le (.lit (.i 0)) b) (by simp))
    simp only [X.d, D.int_i] at q1
    have hn : ¬((b.d T η).int < 0) := by omega
    refine Good.val hs (v' := .int k (k.wrap ((a.d T η).int * 2 ^ (min (b.d T η).int.toNat k.bits)))) ?_ (by simp [SV.V, S1.V, Sc.V, mk2_d, den2])
    simp [execOp, h1, h2, eqGuard, binOp, Op.shift, hn]
  · split at h
    · rename_i hk
      simp only [Option.some.injEq, Prod.mk.injEq] at h; obtain ⟨rfl, rfl⟩ := h
      have q1 := le_of (needs_mem hq (mk2 .le (.lit (.i 0)) b) (by simp))
      simp only [X.d, D.int_i] at q1
      have hn : ¬((b.d T η).int < 0) := by omega
      refine Good.val hs (v' := .int k ((a.d T η).int.fdiv (2 ^ (min (b.d T η).int.toNat 64)))) ?_ (by simp [SV.V, S1.V, Sc.V, mk2_d, den2])
      simp [execOp, h1, h2, eqGuard, binOp, Op.shift, hn, hk]
    · cases h
  · split at h
    · rename_i hk; subst hk
      obtain ⟨v, v', rfl, hv, hr⟩ := binS_good (P := P) (T := T) (η := η) (ρ := ρ) (Z := Z) h hq w
      exact Good.val hs (v' := v') (by simp [execOp, h1, h2, (hr t).1, (hr t).2 x y]) hv
    · cases h
theorem isBool_eq {d : Option TypeDesc} (h : isBool d = true) : d = some .bool := by unfold isBool at h; split at h <;> first | rfl | cases h
theorem binBool_good (hs : Sees T η ρ w Z ev bk E p) {op : BinOp} {t yt : TypeId} {x y : Operand} {a b : X} (hx : ev x = some (.v (.one (.bool a)))) (hy : ev y = some (.v (.one (.bool b)))) (hu : isBool (P.underlying t) = true) (h : binBool op a b = some (e, q)) :
    Good P T η ρ w Z bk E nid ⟨dst, .binOp op t x y yt, ty, pos, aft, gd⟩ e := by
  have h1 : E x = .bool (a.d T η).bool := hs.ev _ _ hx
  have h2 : E y = .bool (b.d T η).bool := hs.ev _ _ hy
  have hE : (Op.equal t (.bool (a.d T η).bool) (.bool (b.d T η).bool)).run P w = .ok ((a.d T η).bool == (b.d T η).bool) w := run_equalIn_bool' w 9999 t _ _ (isBool_eq hu)
  unfold binBool at h
  split at h
  · obtain rfl := okv_eq h
    exact Good.val hs (v' := .bool ((a.d T η).bool == (b.d T η).bool)) (by simp [execOp, h1, h2, eqGuard, binOp, hE]) (by simp [SV.V, S1.V, Sc.V, mk2_d, den2])
  · obtain rfl := okv_eq h
    exact Good.val hs (v' := .bool (!((a.d T η).bool == (b.d T η).bool))) (by simp [execOp, h1, h2, eqGuard, binOp, hE]) (by simp [SV.V, S1.V, Sc.V, mk1_d, den1, mk2_d, den2])
  · cases h
/-- values of such kinds -/
def KV : CK → List Value → Prop
  | .nil, vs => vs = []
  | .cons (.int k) b, vs => ∃ n us, vs = .int k n :: us ∧ KV b us
  | .cons .bool b, vs => ∃ n us, vs = .bool n :: us ∧ KV b us
  | .cons .str b, vs => ∃ n us, vs = .string n :: us ∧ KV b us
  | _, _ => False
def eqV1 : Value → Value → Bool
  | .int _ a, .int _ b => a == b
  | .bool a, .bool b => a == b
  | .string a, .string b => a.toList == b.toList
  | _, _ => true
def eqVs : List Value → List Value → Bool
  | x :: l, y :: m => eqV1 x y && eqVs l m
  | _, _ => true
theorem KV.app : ∀ {c r : CK} {vs : List Value}, KV c (vs.take c.size) → KV (c.app r) vs → KV r (vs.drop c.size) := by
  intro c
  induction c with
  | nil => intro r vs _ h; simpa [CK.size, CK.app] using h
  | cons a b iha ihb =>
    intro r vs h1 h2
    cases a <;> simp only [CK.app, KV] at h1 h2
    · obtain ⟨n, us, rfl, h2⟩ := h2
      obtain ⟨n', us', h3, h1⟩ := h1
      simp [CK.size] at h3
      obtain ⟨-, rfl⟩ := h3
      simpa [CK.size] using ihb h1 h2
    · obtain ⟨n, us, rfl, h2⟩ := h2
      obtain ⟨n', us', h3, h1⟩ := h1
      simp [CK.size] at h3
      obtain ⟨-, rfl⟩ := h3
      simpa [CK.size] using ihb h1 h2
    · obtain ⟨n, us, rfl, h2⟩ := h2
      obtain ⟨n', us', h3, h1⟩ := h1
      simp [CK.size] at h3
      obtain ⟨-, rfl⟩ := h3
      simpa [CK.size] using ihb h1 h2
  | _ => intro r vs h1; simp [KV] at h1
/-- such as end -/
def CK.isL : CK → Bool
  | .nil => true
  | .cons (.int _) b | .cons .bool b | .cons .str b => b.isL
  | _ => false
theorem CK.isL_app : ∀ {c r : CK}, c.isL = true → r.isL = true → (c.app r).isL = true := by
  intro c
  induction c with
  | nil => intro r _ h; exact h
  | cons a b iha ihb => intro r h1 h2; cases a <;> simp only [CK.isL, CK.app] at h1 ⊢ <;> first | exact ihb h1 h2 | cases h1
  | _ => intro r h; simp [CK.isL] at h
theorem CK.size_app : ∀ {c r : CK}, c.isL = true → (c.app r).size = c.size + r.size := by
  intro c
  induction c with
  | nil => intro r _; simp [CK.app, CK.size]
  | cons a b iha ihb => intro r h1; cases a <;> simp only [CK.isL, CK.app, CK.size] at h1 ⊢ <;> first | (rw [ihb h1]; omega) | cases h1
  | _ => intro r h; simp [CK.isL] at h
theorem KV.take : ∀ {c r : CK} {vs : List Value}, c.isL = true → KV (c.app r) vs → KV c (vs.take c.size) := by
  intro c
  induction c with
  | nil => intro r vs _ _; simp [CK.size, KV]
  | cons a b iha ihb =>
    intro r vs h1 h2
    cases a <;> simp only [CK.isL] at h1 <;> first | (cases h1; done) | skip
    all_goals
      simp only [CK.app, KV] at h2 ⊢
      obtain ⟨n, us, rfl, h2⟩ := h2
      exact ⟨n, us.take b.size, by simp [CK.size], ihb h1 h2⟩
  | _ => intro r vs h; simp [CK.isL] at h
theorem eqVs_split : ∀ (n : Nat) (xs ys : List Value), xs.length = ys.length → eqVs xs ys = (eqVs (xs.take n) (ys.take n) && eqVs (xs.drop n) (ys.drop n))
  | 0, xs, ys, _ => by simp [eqVs]
  | n + 1, [], [], _ => by simp [eqVs]
  | n + 1, x :: xs, y :: ys, h => by
    simp only [List.take_succ_cons, List.drop_succ_cons, eqVs]
    rw [eqVs_split n xs ys (by simpa using h), Bool.and_assoc]
theorem KV.len : ∀ {c : CK} {vs : List Value}, KV c vs → vs.length = c.size := by
  intro c
  induction c with
  | nil => intro vs h; simp only [KV] at h; subst h; rfl
  | cons a b iha ihb =>
    intro vs h
    cases a <;> simp only [KV] at h
    all_goals
      obtain ⟨n, us, rfl, h⟩ := h
      simp [CK.size, ihb h]
  | _ => intro vs h; simp [KV] at h
/-- a value of a type by its cells -/
def pv (P : Program) (t : TypeId) (l : List Value) : Value := if tAgg P t = some true then .agg l.toArray else l.headD undef
def EqC (P : Program) (d : Nat) (t : TypeId) (c : CK) : Prop := ∀ (w : World) (xs ys : List Value), KV c xs → KV c ys → (Op.equalIn d t (pv P t xs) (pv P t ys)).run P w = .ok (eqVs xs ys) w
theorem eqFs_isL {f : TypeId → Option CK} (hf : ∀ t c, f t = some c → c.isL = true) : ∀ {fs : List Field} {off : Nat} {c : CK}, eqFs P f fs off = some c → c.isL = true
  | [], off, c, h => by simp [eqFs] at h; subst h; rfl
  | fd :: l, off, c, h => by
    simp only [eqFs] at h
    split at h
    · rename_i c0 hc0
      split at h
      · simp only [Option.map_eq_some_iff] at h
        obtain ⟨r, hr, rfl⟩ := h
        exact CK.isL_app (hf _ _ hc0) (eqFs_isL hf hr)
      · cases h
    · cases h
theorem CK.isL_rep {c : CK} (h : c.isL = true) : ∀ n, (CK.rep n c).isL = true
  | 0 => rfl
  | n + 1 => CK.isL_app h (CK.isL_rep h n)
theorem eqT_isL : ∀ {n : Nat} {t : TypeId} {c : CK}, eqT P n t = some c → c.isL = true
  | 0, t, c, h => by simp [eqT] at h
  | n + 1, t, c, h => by
    simp only [eqT] at h
    split at h
    · simp at h; subst h; rfl
    · simp at h; subst h; rfl
    · simp at h; subst h; rfl
    · split at h
      · cases h
      · exact eqFs_isL (fun t c h => eqT_isL h) h
    · obtain ⟨c0, h0, h⟩ := bind_eq h
      split at h
      · simp at h; subst h; exact CK.isL_rep (eqT_isL h0) _
      · cases h
    · cases h
theorem eqT_agg {n : Nat} {t : TypeId} {c : CK} (h : eqT P n t = some c) : tAgg P t = some true ∨ (tAgg P t = some false ∧ c.size = 1) := by
  cases n with
  | zero => simp [eqT] at h
  | succ n =>
    simp only [eqT] at h
    unfold tAgg
    split at h
    · rename_i hu; rw [hu]; simp at h; subst h; exact .inr ⟨rfl, rfl⟩
    · rename_i hu; rw [hu]; simp at h; subst h; exact .inr ⟨rfl, rfl⟩
    · rename_i hu; rw [hu]; simp at h; subst h; exact .inr ⟨rfl, rfl⟩
    · rename_i hu; rw [hu]; exact .inl rfl
    · rename_i hu; rw [hu]; exact .inl rfl
    · cases h
theorem run_partC {n : Nat} {t : TypeId} {c : CK} (h : eqT P n t = some c) (hs : tSize P t = some c.size) {xs : List Value} {off : Nat} (hx : ((xs.drop off).take c.size).length = c.size) (w : World) : (part t xs.toArray off).run P w = .ok (pv P t ((xs.drop off).take c.size)) w := by
  unfold pv
  rcases eqT_agg h with ha | ⟨ha, h1⟩
  · rw [if_pos ha]
    simp only [part, Sem.run_bind, run_agg ha w, Result.andThen_ok, if_true, run_size hs w, Sem.run_pure]
    congr 2
    apply Array.ext'
    simp
  · rw [ha, if_neg (by simp)]
    rw [h1] at hx ⊢
    have : off < xs.length := by simp at hx; omega
    simp [part, run_agg ha w, this, List.take_one]
theorem eqT_ok : ∀ (n : Nat) (t : TypeId) (c : CK), eqT P n t = some c → ∀ d, EqC P (d + n) t c
  | 0, t, c, h, d => by simp [eqT] at h
  | n + 1, t, c, h, d => by
    intro w xs ys hx hy
    have hagg := eqT_agg h
    simp only [eqT] at h
    split at h
    · rename_i k hu
      simp at h; subst h
      obtain ⟨a, us, rfl, h1⟩ := hx
      obtain ⟨b, us', rfl, h2⟩ := hy
      simp only [KV] at h1 h2; subst h1; subst h2
      have ha : tAgg P t = some false := by unfold tAgg; rw [hu]
      simp only [pv, ha, Option.some.injEq, Bool.false_eq_true, if_false, List.headD_cons, eqVs, eqV1, Bool.and_true]
      exact run_equalIn_int w (d + n) t k k a b hu
    · rename_i hu
      simp at h; subst h
      obtain ⟨a, us, rfl, h1⟩ := hx
      obtain ⟨b, us', rfl, h2⟩ := hy
      simp only [KV] at h1 h2; subst h1; subst h2
      have ha : tAgg P t = some false := by unfold tAgg; rw [hu]
      simp only [pv, ha, Option.some.injEq, Bool.false_eq_true, if_false, List.headD_cons, eqVs, eqV1, Bool.and_true]
      exact run_equalIn_bool' w (d + n) t a b hu
    · rename_i hu
      simp at h; subst h
      obtain ⟨a, us, rfl, h1⟩ := hx
      obtain ⟨b, us', rfl, h2⟩ := hy
      simp only [KV] at h1 h2; subst h1; subst h2
      have ha : tAgg P t = some false := by unfold tAgg; rw [hu]
      simp only [pv, ha, Option.some.injEq, Bool.false_eq_true, if_false, List.headD_cons, eqVs, eqV1, Bool.and_true]
      exact run_equalIn_string w (d + n) t a b hu
    · rename_i fs hu
      split at h
      · cases h
      · rename_i hst
        have ha : tAgg P t = some true := by unfold tAgg; rw [hu]
        have hfo : P.fieldsOf t = fs := by simp [Program.fieldsOf, hu]
        simp only [pv, ha, if_true]
        rw [show d + (n + 1) = (d + n) + 1 from rfl, run_equalIn_struct w (d + n) t _ _ (by rw [hfo, hu]) (by simpa using hst), hfo]
        have key : ∀ (l : List Field) (off : Nat) (r : CK), eqFs P (eqT P n) l off = some r → KV r (xs.drop off) → KV r (ys.drop off) → (Op.eqFields (d + n) xs.toArray ys.toArray l).run P w = .ok (eqVs (xs.drop off) (ys.drop off)) w := by
          intro l
          induction l with
          | nil =>
            intro off r hr h1 h2
            simp [eqFs] at hr; subst hr
            simp only [KV] at h1 h2
            simp [Op.eqFields, h1, eqVs]
          | cons fd l ih =>
            intro off r hr h1 h2
            simp only [eqFs] at hr
            split at hr
            · rename_i c0 hc0
              split at hr
              · rename_i hcc
                obtain ⟨hn, rfl, hsz⟩ := hcc
                simp only [Option.map_eq_some_iff] at hr
                obtain ⟨r', hr', rfl⟩ := hr
                have hL := eqT_isL hc0
                have x1 := KV.take hL h1
                have y1 := KV.take hL h2
                have x2 := KV.app x1 h1
                have y2 := KV.app y1 h2
                rw [List.drop_drop] at x2 y2
                have e1 := run_partC hc0 hsz (xs := xs) (off := fd.offset) x1.len w
                have e2 := run_partC hc0 hsz (xs := ys) (off := fd.offset) y1.len w
                have e3 := eqT_ok n _ _ hc0 d w _ _ x1 y1
                have e4 := ih _ _ hr' x2 y2
                rw [eqVs_split c0.size (xs.drop fd.offset) (ys.drop fd.offset) (by rw [h1.len, h2.len]), List.drop_drop, List.drop_drop]
                simp only [Op.eqFields, if_pos hn, Sem.run_bind, e1, e2, e3, Result.andThen_ok]
                cases hb : eqVs ((xs.drop fd.offset).take c0.size) ((ys.drop fd.offset).take c0.size)
                · simp
                · simp [e4]
              · cases hr
            · cases hr
        simpa using key fs.toList 0 c h (by simpa using hx) (by simpa using hy)
    · rename_i len el hu
      obtain ⟨c0, h0, h⟩ := bind_eq h
      split at h
      · rename_i hsz
        simp at h; subst h
        have ha : tAgg P t = some true := by unfold tAgg; rw [hu]
        simp only [pv, ha, if_true]
        obtain ⟨i, hi, his⟩ : ∃ i, P.info? el = some i ∧ i.size = c0.size := by
          unfold tSize at hsz
          simpa only [Option.map_eq_some_iff] using hsz
        have hco : P.cellsOf el = c0.size := by simp [Program.cellsOf, hi, his]
        rw [show d + (n + 1) = (d + n) + 1 from rfl, run_equalIn_array w (d + n) xs.toArray ys.toArray hu hi, hco]
        have hL := eqT_isL h0
        have key : ∀ (m s : Nat), KV (CK.rep m c0) (xs.drop (s * c0.size)) → KV (CK.rep m c0) (ys.drop (s * c0.size)) → (Op.eqItems (d + n) el c0.size xs.toArray ys.toArray (List.range' s m)).run P w = .ok (eqVs (xs.drop (s * c0.size)) (ys.drop (s * c0.size))) w := by
          intro m
          induction m with
          | zero =>
            intro s h1 h2
            simp only [CK.rep, KV] at h1 h2
            simp [Op.eqItems, h1, eqVs]
          | succ m ih =>
            intro s h1 h2
            simp only [CK.rep] at h1 h2
            have x1 := KV.take hL h1
            have y1 := KV.take hL h2
            have x2 := KV.app x1 h1
            have y2 := KV.app y1 h2
            rw [List.drop_drop, show s * c0.size + c0.size = (s + 1) * c0.size by rw [Nat.succ_mul]] at x2 y2
            have e1 := run_partC h0 hsz (xs := xs) (off := s * c0.size) x1.len w
            have e2 := run_partC h0 hsz (xs := ys) (off := s * c0.size) y1.len w
            have e3 := eqT_ok n _ _ h0 d w _ _ x1 y1
            have e4 := ih (s + 1) x2 y2
            rw [eqVs_split c0.size (xs.drop (s * c0.size)) (ys.drop (s * c0.size)) (by rw [h1.len, h2.len]), List.drop_drop, List.drop_drop, show s * c0.size + c0.size = (s + 1) * c0.size by rw [Nat.succ_mul]]
            rw [List.range'_succ]
            simp only [Op.eqItems, Sem.run_bind, e1, e2, e3, Result.andThen_ok]
            cases hb : eqVs ((xs.drop (s * c0.size)).take c0.size) ((ys.drop (s * c0.size)).take c0.size)
            · simp
            · simp [e4]
        rw [List.range_eq_range']
        simpa using key len 0 (by simpa using hx) (by simpa using hy)
      · cases h
    · cases h
theorem kindsAre_KV : ∀ {ks : CK} {l : List Sc} {vs : List Value}, kindsAre ks l = true → VL T η ρ w Z l vs → KV ks vs := by
  intro ks
  induction ks with
  | nil => intro l vs h hv; cases l <;> simp [kindsAre] at h; simp only [VL] at hv; exact hv
  | cons a b iha ihb =>
    intro l vs h hv
    unfold kindsAre at h
    split at h
    · rename_i e; cases e
    · rename_i k b' k' x l' e
      cases e
      obtain ⟨v, us, rfl, h1, h2⟩ := hv
      simp only [Bool.and_eq_true, decide_eq_true_eq] at h
      obtain ⟨rfl, h⟩ := h
      exact ⟨_, us, by rw [show v = _ from h1], ihb h h2⟩
    · rename_i b' x l' e
      cases e
      obtain ⟨v, us, rfl, h1, h2⟩ := hv
      exact ⟨_, us, by rw [show v = _ from h1], ihb h h2⟩
    · rename_i b' x l' e
      cases e
      obtain ⟨v, us, rfl, h1, h2⟩ := hv
      obtain ⟨s, h1, -⟩ := h1
      simp at h1; subst h1
      exact ⟨_, us, rfl, ihb h h2⟩
    · cases h
  | _ => intro l vs h; cases l <;> simp [kindsAre] at h
theorem ofBytes_inj {a b : ByteArray} : (a.toList == b.toList) = decide (D.ofBytes a = D.ofBytes b) := by
  have key : ∀ l m : List UInt8, D.of (l.map fun x => .i (x.toNat : Int)) = D.of (m.map fun x => .i (x.toNat : Int)) → l = m := by
    intro l
    induction l with
    | nil => intro m h; cases m <;> simp [D.of] at h ⊢
    | cons x l ih =>
      intro m h
      cases m with
      | nil => simp [D.of] at h
      | cons y m =>
        simp only [List.map_cons, D.of, D.cons.injEq, D.i.injEq] at h
        have e1 : x = y := UInt8.toNat_inj.mp (by have := h.1; omega)
        rw [ih m h.2, e1]
  rw [Bool.eq_iff_iff, beq_iff_eq, decide_eq_true_eq, ByteArray.toList_eq, ByteArray.toList_eq]
  exact ⟨fun h => by unfold D.ofBytes; rw [h], fun h => key _ _ h⟩
theorem eqCells_V : ∀ {a b : List Sc} {x : X} {vs us : List Value}, eqCells a b = some x → VL T η ρ w Z a vs → VL T η ρ w Z b us → eqVs vs us = (x.d T η).bool := by
  intro a
  induction a with
  | nil =>
    intro b x vs us h hv hu
    cases b <;> simp [eqCells] at h
    subst h
    simp only [VL] at hv; subst hv
    simp [eqVs, X.d]
  | cons c a ih =>
    intro b x vs us h hv hu
    obtain ⟨v, vs, rfl, h1, h2⟩ := hv
    cases b with
    | nil => cases c <;> simp [eqCells] at h
    | cons c' b =>
      obtain ⟨u, us, rfl, g1, g2⟩ := hu
      cases c <;> cases c' <;> simp only [eqCells, reduceCtorEq] at h
      · split at h
        · simp only [Option.map_eq_some_iff] at h
          obtain ⟨y, hy, rfl⟩ := h
          simp only [Sc.V] at h1 g1; subst h1; subst g1
          simp only [eqVs, eqV1, ih hy h2 g2, mk2_d, den2, D.bool_b]
        · cases h
      · simp only [Option.map_eq_some_iff] at h
        obtain ⟨y, hy, rfl⟩ := h
        simp only [Sc.V] at h1 g1; subst h1; subst g1
        simp only [eqVs, eqV1, ih hy h2 g2, mk2_d, den2, D.bool_b]
      · simp only [Option.map_eq_some_iff] at h
        obtain ⟨y, hy, rfl⟩ := h
        obtain ⟨s, h1, h3⟩ := h1
        obtain ⟨s', g1, g3⟩ := g1
        simp at h1 g1; subst h1; subst g1
        simp only [eqVs, eqV1, ih hy h2 g2, mk2_d, den2, D.bool_b, h3, g3, ofBytes_inj]
theorem binAgg_good (hs : Sees T η ρ w Z ev bk E p) {op : BinOp} {t yt : TypeId} {x y : Operand} {a b : List Sc} (hx : ev x = some (.v (.agg a))) (hy : ev y = some (.v (.agg b))) (h : binAgg P op t a b = some (e, q)) :
    Good P T η ρ w Z bk E nid ⟨dst, .binOp op t x y yt, ty, pos, aft, gd⟩ e := by
  obtain ⟨vs, h1, h2⟩ := hs.ev _ _ hx
  obtain ⟨us, g1, g2⟩ := hs.ev _ _ hy
  unfold binAgg at h
  split at h
  · rename_i ks hks
    split at h
    · rename_i hc
      simp only [Bool.and_eq_true, Bool.not_eq_true'] at hc
      obtain ⟨⟨⟨k1, k2⟩, k3⟩, k4⟩ := hc
      have hag : tAgg P t = some true := by simpa using k4
      have hE := eqT_ok 20 t ks hks 9980 w vs us (kindsAre_KV k1 h2) (kindsAre_KV k2 g2)
      have hpv : ∀ vs, pv P t vs = .agg vs.toArray := fun vs => by unfold pv; rw [if_pos hag]
      have hgd := run_eqGuard_agg (P := P) w op t x y vs.toArray us.toArray k3
      rw [hpv, hpv] at hE
      have hE : (Op.equal t (.agg vs.toArray) (.agg us.toArray)).run P w = .ok (eqVs vs us) w := hE
      split at h
      · obtain ⟨z, hz, h⟩ := bind_eq h
        obtain rfl := okv_eq h
        refine Good.val hs (v' := .bool (eqVs vs us)) ?_ (by rw [eqCells_V hz h2 g2]; rfl)
        simp only [execOp, h1, g1, Sem.run_bind, hgd, Result.andThen_ok]
        simp [binOp, hE]
      · obtain ⟨z, hz, h⟩ := bind_eq h
        obtain rfl := okv_eq h
        refine Good.val hs (v' := .bool (!eqVs vs us)) ?_ (by rw [eqCells_V hz h2 g2]; simp [SV.V, S1.V, Sc.V, mk1_d, den1])
        simp only [execOp, h1, g1, Sem.run_bind, hgd, Result.andThen_ok]
        simp [binOp, hE]
      · cases h
    · cases h
  · cases h
theorem eIndex_good (hs : Sees T η ρ w Z ev bk E p) (hpc : pc.ok T η) {t : TypeId} {x ix : Operand} (h : eIndex P pc ev t x ix = some (e, q)) (hq : ∀ y ∈ q, (y.d T η).bool = true) : Good P T η ρ w Z bk E nid ⟨dst, .index t x ix, ty, pos, aft, gd⟩ e := by
  unfold eIndex at h
  split at h
  · rename_i len elem l k i hu hx hi
    split at h
    · rename_i n j q0 hn hix
      split at h
      · rename_i hb
        simp only [Option.map_eq_some_iff, Prod.mk.injEq] at h
        obtain ⟨v, hv, rfl, rfl⟩ := h
        have hj := idxLit_i hpc hix hq
        have hi' := (hs.one hi).1
        simp only [Sc.V] at hi'
        obtain ⟨vs, h1, h2⟩ := hs.ev _ _ hx
        obtain ⟨u, h3, h4⟩ := run_part hv h2 w
        exact Good.val hs (v' := u) (by simp [execOp, Instr.index, run_underlying hu, h1, hi', hj, asIntOf, hb, run_size hn, h3]) h4
      · cases h
    · cases h
  · cases h
theorem eMin_good (hs : Sees T η ρ w Z ev bk E p) {c : Call} (hc : c.callee = .builtin .min) (h : eMin ev c = some (e, q)) : Good P T η ρ w Z bk E nid ⟨dst, .call c, ty, pos, aft, gd⟩ e := by
  obtain ⟨callee, args, types⟩ := c
  simp only at hc; subst hc
  unfold eMin at h
  split at h
  · rename_i a b ha
    split at h
    · rename_i k x k' y hx hy
      obtain rfl := okv_eq h
      have : args = #[a, b] := by apply Array.ext'; simpa using ha
      subst this
      have h1 := (hs.one hx).1
      have h2 := (hs.one hy).1
      simp only [Sc.V] at h1 h2
      exact Good.val hs (v' := .int k (if (y.d T η).int < (x.d T η).int then (y.d T η).int else (x.d T η).int)) (by simp [execOp, resolve, invoke, builtin, Builtin.min_, Builtin.min2, h1, h2]) (by simp [SV.V, S1.V, Sc.V, mk2_d, den2])
    · cases h
  · cases h
theorem eMax_good (hs : Sees T η ρ w Z ev bk E p) {c : Call} (hc : c.callee = .builtin .max) (h : eMax ev c = some (e, q)) : Good P T η ρ w Z bk E nid ⟨dst, .call c, ty, pos, aft, gd⟩ e := by
  obtain ⟨callee, args, types⟩ := c
  simp only at hc; subst hc
  unfold eMax at h
  split at h
  · rename_i a b ha
    split at h
    · rename_i k x k' y hx hy
      obtain rfl := okv_eq h
      have : args = #[a, b] := by apply Array.ext'; simpa using ha
      subst this
      have h1 := (hs.one hx).1
      have h2 := (hs.one hy).1
      simp only [Sc.V] at h1 h2
      exact Good.val hs (v' := .int k (if (y.d T η).int > (x.d T η).int then (y.d T η).int else (x.d T η).int)) (by simp [execOp, resolve, invoke, builtin, Builtin.max_, Builtin.max2, h1, h2]) (by simp [SV.V, S1.V, Sc.V, mk2_d, den2])
    · cases h
  · cases h
theorem eLen_good (hs : Sees T η ρ w Z ev bk E p) {c : Call} (hc : c.callee = .builtin .len) (h : eLen P bk ev c = some (e, q)) : Good P T η ρ w Z bk E nid ⟨dst, .call c, ty, pos, aft, gd⟩ e := by
  obtain ⟨callee, args, types⟩ := c
  simp only at hc; subst hc
  unfold eLen at h
  split at h
  · rename_i t a ht ha
    have : args = #[a] := by apply Array.ext'; simpa using ha
    subst this
    simp only at ht
    split at h
    · rename_i el hu hx
      obtain rfl := okv_eq h
      have h1 := (hs.one hx).1
      simp only [Sc.V] at h1
      exact Good.val hs (v' := .int .i64 0) (by simp [execOp, resolve, invoke, builtin, Builtin.len_, ht, run_underlying hu, h1, goInt]) (by simp [SV.V, S1.V, Sc.V, X.d])
    · rename_i el c _ hu hx
      obtain ⟨⟨ck, x, ws⟩, hsx, h⟩ := bind_eq h
      obtain rfl := okv_eq h
      have h1 := sliceX_R (Z' := frzZ ρ Z ws) hs.mem.bk hsx (hs.one hx).1 (fun g hg => .inl hg) (frz_kept ρ Z ws)
      obtain ⟨aa, n, cc, h2, h3, -⟩ := h1
      simp at h2
      exact Good.val hs (v' := .int .i64 (n : Int)) (by simp [execOp, resolve, invoke, builtin, Builtin.len_, ht, run_underlying hu, h2, goInt]) (by simp [SV.V, S1.V, Sc.V, mk1_d, den1, h3])
    · rename_i x hu hx
      obtain rfl := okv_eq h
      obtain ⟨s, h1, h2⟩ := (hs.one hx).1
      simp at h1
      exact Good.val hs (v' := .int .i64 (s.size : Int)) (by simp [execOp, resolve, invoke, builtin, Builtin.len_, ht, run_underlying hu, h1, goInt]) (by simp [SV.V, S1.V, Sc.V, mk1_d, den1, h2, ofBytes_len])
    · cases h
  · cases h
end
end
end Go.Sz
