/- The evaluator: states that meet. -/
import Derived.Test.YtjeenfnfkndgaaaZS
namespace Go.Sz
open Go Go.RowKit
noncomputable section
/-- the blocks of one side -/
def mu (bv : Bool) (ps : Pairs) : Nat → Option Nat := fun id => match ps[id]? with | some q => cond bv q.1 q.2 | none => none
theorem mu_get {bv : Bool} {ps : Pairs} {k : Nat} {a b : Option Nat} (h : ps[k]? = some (a, b)) : mu bv ps k = cond bv a b := by simp [mu, h]
theorem pre_get {α : Type} {l m : List α} (h : l <+: m) {k : Nat} {x : α} (hk : l[k]? = some x) : m[k]? = some x := by
  obtain ⟨t, rfl⟩ := h
  rw [List.getElem?_append_left (List.getElem?_eq_some_iff.1 hk).1]; exact hk
theorem PS.pair_spec (s : PS) (a b : Option Nat) : s.ps <+: (s.pair a b).2.ps ∧ (s.pair a b).2.ps[(s.pair a b).1]? = some (a, b) := by
  unfold PS.pair
  dsimp only
  split
  · rename_i h
    refine ⟨List.prefix_refl _, ?_⟩
    rw [List.getElem?_eq_getElem h]
    have := List.findIdx_getElem (w := h)
    simpa using this
  · exact ⟨List.prefix_append _ _, by simp⟩
section
variable {c : X} {s s' : PS}
/-- what a meeting of two things is -/
def MOk {α : Type} (c : X) (ids : (Nat → Bool) → α → Bool) (V : Tab → Env → Plc → World → (Nat → Prop) → α → Value → Prop) (a b r : α) (s' : PS) : Prop :=
  ∀ ps, s'.ps <+: ps → ids (fun id => decide (id < ps.length)) r = true ∧ ∀ (T : Tab) (η : Env) (ρ : Plc) (w : World) (Z : Nat → Prop) (v : Value), V T η ρ w Z (cond (c.d T η).bool a b) v → V T η (plc ρ (mu (c.d T η).bool ps)) w Z r v
theorem ite_d {T : Tab} {η : Env} {x y : X} : (mk3 .ite c x y).d T η = cond (c.d T η).bool (x.d T η) (y.d T η) := by
  rw [mk3_d]; cases h : (c.d T η).bool <;> simp [den3, h]
theorem meetSc_ok {a b r : Sc} (h : meetSc (.ite c) s a b = some (r, s')) : s.ps <+: s'.ps ∧ MOk c Sc.ids Sc.V a b r s' := by
  have pr : ∀ {x y : Option Nat} {ps : Pairs}, (s.pair x y).2.ps <+: ps → ∀ bv, mu bv ps (s.pair x y).1 = cond bv x y ∧ (s.pair x y).1 < ps.length := fun {x y ps} hp bv => by
    have := pre_get hp (s.pair_spec x y).2
    exact ⟨mu_get this, (List.getElem?_eq_some_iff.1 this).1⟩
  unfold meetSc at h
  split at h
  · split at h
    · rename_i hk; subst hk
      simp only [Md.x, Option.some.injEq, Prod.mk.injEq] at h; obtain ⟨rfl, rfl⟩ := h
      refine ⟨List.prefix_refl _, fun ps hp => ⟨rfl, fun T η ρ w Z v hv => ?_⟩⟩
      simp only [Sc.V, ite_d]
      cases hb : (c.d T η).bool <;> rw [hb] at hv <;> exact hv
    · cases h
  · simp only [Md.b, Option.some.injEq, Prod.mk.injEq] at h; obtain ⟨rfl, rfl⟩ := h
    refine ⟨List.prefix_refl _, fun ps hp => ⟨rfl, fun T η ρ w Z v hv => ?_⟩⟩
    simp only [Sc.V, phiB_d]
    cases hb : (c.d T η).bool <;> rw [hb] at hv <;> exact hv
  · simp only [Md.x, Option.some.injEq, Prod.mk.injEq] at h; obtain ⟨rfl, rfl⟩ := h
    refine ⟨List.prefix_refl _, fun ps hp => ⟨rfl, fun T η ρ w Z v hv => ?_⟩⟩
    simp only [Sc.V, ite_d]
    cases hb : (c.d T η).bool <;> rw [hb] at hv <;> exact hv
  · split at h
    · rename_i hk; subst hk
      simp only [Md.x, Option.some.injEq, Prod.mk.injEq] at h; obtain ⟨rfl, rfl⟩ := h
      refine ⟨List.prefix_refl _, fun ps hp => ⟨rfl, fun T η ρ w Z v hv => ?_⟩⟩
      simp only [Sc.V, ite_d]
      cases hb : (c.d T η).bool <;> rw [hb] at hv <;> exact hv
    · cases h
  · simp only [Md.x, Option.some.injEq, Prod.mk.injEq] at h; obtain ⟨rfl, rfl⟩ := h
    refine ⟨List.prefix_refl _, fun ps hp => ⟨rfl, fun T η ρ w Z v hv => ?_⟩⟩
    simp only [Sc.V, ite_d]
    cases hb : (c.d T η).bool <;> rw [hb] at hv
    · simp only [cond, Sc.V] at hv; subst hv
      exact ⟨none, 0, 0, rfl, rfl, Nat.le_refl _, fun m hm => by omega⟩
    · exact hv
  · simp only [Md.x, Option.some.injEq, Prod.mk.injEq] at h; obtain ⟨rfl, rfl⟩ := h
    refine ⟨List.prefix_refl _, fun ps hp => ⟨rfl, fun T η ρ w Z v hv => ?_⟩⟩
    simp only [Sc.V, ite_d]
    cases hb : (c.d T η).bool <;> rw [hb] at hv
    · exact hv
    · simp only [cond, Sc.V] at hv; subst hv
      exact ⟨none, 0, 0, rfl, rfl, Nat.le_refl _, fun m hm => by omega⟩
  · rename_i i j
    simp only [Option.some.injEq, Prod.mk.injEq] at h; obtain ⟨rfl, rfl⟩ := h
    refine ⟨(s.pair_spec _ _).1, fun ps hp => ⟨by simpa [Sc.ids] using (pr hp true).2, fun T η ρ w Z v hv => ?_⟩⟩
    simp only [Sc.V, plc, (pr hp _).1]
    cases hb : (c.d T η).bool <;> rw [hb] at hv <;> exact hv
  · rename_i i
    simp only [Option.some.injEq, Prod.mk.injEq] at h; obtain ⟨rfl, rfl⟩ := h
    refine ⟨(s.pair_spec _ _).1, fun ps hp => ⟨by simpa [Sc.ids] using (pr hp true).2, fun T η ρ w Z v hv => ?_⟩⟩
    simp only [Sc.V, plc, (pr hp _).1]
    cases hb : (c.d T η).bool <;> rw [hb] at hv <;> exact hv
  · rename_i j
    simp only [Option.some.injEq, Prod.mk.injEq] at h; obtain ⟨rfl, rfl⟩ := h
    refine ⟨(s.pair_spec _ _).1, fun ps hp => ⟨by simpa [Sc.ids] using (pr hp true).2, fun T η ρ w Z v hv => ?_⟩⟩
    simp only [Sc.V, plc, (pr hp _).1]
    cases hb : (c.d T η).bool <;> rw [hb] at hv <;> exact hv
  · split at h
    · rename_i hk; subst hk
      simp only [Option.some.injEq, Prod.mk.injEq] at h; obtain ⟨rfl, rfl⟩ := h
      refine ⟨(s.pair_spec _ _).1, fun ps hp => ⟨by simpa [Sc.ids] using (pr hp true).2, fun T η ρ w Z v hv => ?_⟩⟩
      simp only [Sc.V, plc, (pr hp _).1]
      cases hb : (c.d T η).bool <;> rw [hb] at hv <;> exact hv
    · cases h
  · split at h
    · rename_i hk; subst hk
      simp only [Md.x, Option.some.injEq, Prod.mk.injEq] at h; obtain ⟨rfl, rfl⟩ := h
      refine ⟨List.prefix_refl _, fun ps hp => ⟨rfl, fun T η ρ w Z v hv => ?_⟩⟩
      simp only [Sc.V, ite_d]
      cases hb : (c.d T η).bool <;> rw [hb] at hv <;> exact hv
    · cases h
  · split at h
    · rename_i hk; obtain ⟨rfl, hi⟩ := hk
      simp only [Option.some.injEq, Prod.mk.injEq] at h; obtain ⟨rfl, rfl⟩ := h
      refine ⟨List.prefix_refl _, fun ps hp => ⟨Sc.ids_mono (p := fun _ => false) (fun _ h => Bool.noConfusion h) hi, fun T η ρ w Z v hv => ?_⟩⟩
      rw [Bool.cond_self] at hv
      exact hv.mono (p := fun _ => false) hi (fun _ h => Bool.noConfusion h) (fun _ _ => rfl) (fun _ h => h)
    · cases h
theorem MOk.sc {a b r : Sc} {t : PS} (h : MOk c Sc.ids Sc.V a b r s') (ht : s'.ps <+: t.ps) : MOk c Sc.ids Sc.V a b r t := fun ps hp => h ps (ht.trans hp)
theorem meetL_ok : ∀ {a b r : List Sc} {s s' : PS}, meetL (.ite c) s a b = some (r, s') → s.ps <+: s'.ps ∧ ∀ ps, s'.ps <+: ps → r.all (Sc.ids fun id => decide (id < ps.length)) = true ∧
    ∀ (T : Tab) (η : Env) (ρ : Plc) (w : World) (Z : Nat → Prop) (vs : List Value), VL T η ρ w Z (cond (c.d T η).bool a b) vs → VL T η (plc ρ (mu (c.d T η).bool ps)) w Z r vs
  | [], [], r, s, s', h => by
    simp [meetL] at h; obtain ⟨rfl, rfl⟩ := h
    refine ⟨List.prefix_refl _, fun ps hp => ⟨rfl, fun T η ρ w Z vs hv => ?_⟩⟩
    cases hb : (c.d T η).bool <;> rw [hb] at hv <;> exact hv
  | a :: l, b :: m, r, s, s', h => by
    simp only [meetL] at h
    split at h
    · rename_i x s1 h1
      simp only [Option.map_eq_some_iff] at h
      obtain ⟨⟨l', s2⟩, h2, h3⟩ := h
      simp only [Prod.mk.injEq] at h3; obtain ⟨rfl, rfl⟩ := h3
      obtain ⟨g1, g2⟩ := meetSc_ok h1
      obtain ⟨g3, g4⟩ := meetL_ok h2
      refine ⟨g1.trans g3, fun ps hp => ?_⟩
      obtain ⟨k1, k2⟩ := g2 ps (g3.trans hp)
      obtain ⟨k3, k4⟩ := g4 ps hp
      refine ⟨by simp only [List.all_cons, k1, k3]; rfl, fun T η ρ w Z vs hv => ?_⟩
      have k2 := k2 T η ρ w Z
      have k4 := k4 T η ρ w Z
      cases hb : (c.d T η).bool <;> rw [hb] at hv k2 k4 <;> obtain ⟨v, us, rfl, f1, f2⟩ := hv <;> exact ⟨v, us, rfl, k2 v f1, k4 us f2⟩
    · cases h
  | [], _ :: _, r, s, s', h => by simp [meetL] at h
  | _ :: _, [], r, s, s', h => by simp [meetL] at h
theorem meet1_ok {a b r : S1} (h : meet1 (.ite c) s a b = some (r, s')) : s.ps <+: s'.ps ∧ MOk c S1.ids S1.V a b r s' := by
  cases a <;> cases b <;> simp only [meet1, Option.map_eq_some_iff, reduceCtorEq] at h
  · obtain ⟨⟨x, s1⟩, h1, h2⟩ := h
    simp only [Prod.mk.injEq] at h2; obtain ⟨rfl, rfl⟩ := h2
    obtain ⟨g1, g2⟩ := meetSc_ok h1
    refine ⟨g1, fun ps hp => ⟨by simpa [S1.ids, S1.cells] using (g2 ps hp).1, fun T η ρ w Z v hv => ?_⟩⟩
    have := (g2 ps hp).2 T η ρ w Z v
    cases hb : (c.d T η).bool <;> rw [hb] at hv this <;> exact this hv
  · obtain ⟨⟨x, s1⟩, h1, h2⟩ := h
    simp only [Prod.mk.injEq] at h2; obtain ⟨rfl, rfl⟩ := h2
    obtain ⟨g1, g2⟩ := meetL_ok h1
    refine ⟨g1, fun ps hp => ⟨(g2 ps hp).1, fun T η ρ w Z v hv => ?_⟩⟩
    have := (g2 ps hp).2 T η ρ w Z
    cases hb : (c.d T η).bool <;> rw [hb] at hv this <;> obtain ⟨vs, e1, e2⟩ := hv <;> exact ⟨vs, e1, this vs e2⟩
theorem meetT_ok : ∀ {a b r : List S1} {s s' : PS}, meetT (.ite c) s a b = some (r, s') → s.ps <+: s'.ps ∧ ∀ ps, s'.ps <+: ps → r.all (S1.ids fun id => decide (id < ps.length)) = true ∧
    ∀ (T : Tab) (η : Env) (ρ : Plc) (w : World) (Z : Nat → Prop) (vs : List Value), VT T η ρ w Z (cond (c.d T η).bool a b) vs → VT T η (plc ρ (mu (c.d T η).bool ps)) w Z r vs
  | [], [], r, s, s', h => by
    simp [meetT] at h; obtain ⟨rfl, rfl⟩ := h
    refine ⟨List.prefix_refl _, fun ps hp => ⟨rfl, fun T η ρ w Z vs hv => ?_⟩⟩
    cases hb : (c.d T η).bool <;> rw [hb] at hv <;> exact hv
  | a :: l, b :: m, r, s, s', h => by
    simp only [meetT] at h
    split at h
    · rename_i x s1 h1
      simp only [Option.map_eq_some_iff] at h
      obtain ⟨⟨l', s2⟩, h2, h3⟩ := h
      simp only [Prod.mk.injEq] at h3; obtain ⟨rfl, rfl⟩ := h3
      obtain ⟨g1, g2⟩ := meet1_ok h1
      obtain ⟨g3, g4⟩ := meetT_ok h2
      refine ⟨g1.trans g3, fun ps hp => ?_⟩
      obtain ⟨k1, k2⟩ := g2 ps (g3.trans hp)
      obtain ⟨k3, k4⟩ := g4 ps hp
      refine ⟨by simp only [List.all_cons, k1, k3]; rfl, fun T η ρ w Z vs hv => ?_⟩
      have k2 := k2 T η ρ w Z
      have k4 := k4 T η ρ w Z
      cases hb : (c.d T η).bool <;> rw [hb] at hv k2 k4 <;> obtain ⟨v, us, rfl, f1, f2⟩ := hv <;> exact ⟨v, us, rfl, k2 v f1, k4 us f2⟩
    · cases h
  | [], _ :: _, r, s, s', h => by simp [meetT] at h
  | _ :: _, [], r, s, s', h => by simp [meetT] at h
theorem meetV_ok {a b r : SV} (h : meetV (.ite c) s a b = some (r, s')) : s.ps <+: s'.ps ∧ MOk c SV.ids SV.V a b r s' := by
  cases a <;> cases b <;> simp only [meetV, Option.map_eq_some_iff, reduceCtorEq] at h
  · obtain ⟨⟨x, s1⟩, h1, h2⟩ := h
    simp only [Prod.mk.injEq] at h2; obtain ⟨rfl, rfl⟩ := h2
    obtain ⟨g1, g2⟩ := meet1_ok h1
    refine ⟨g1, fun ps hp => ⟨(g2 ps hp).1, fun T η ρ w Z v hv => ?_⟩⟩
    have := (g2 ps hp).2 T η ρ w Z v
    cases hb : (c.d T η).bool <;> rw [hb] at hv this <;> exact this hv
  · obtain ⟨⟨x, s1⟩, h1, h2⟩ := h
    simp only [Prod.mk.injEq] at h2; obtain ⟨rfl, rfl⟩ := h2
    obtain ⟨g1, g2⟩ := meetT_ok h1
    refine ⟨g1, fun ps hp => ⟨(g2 ps hp).1, fun T η ρ w Z v hv => ?_⟩⟩
    have := (g2 ps hp).2 T η ρ w Z
    cases hb : (c.d T η).bool <;> rw [hb] at hv this <;> obtain ⟨vs, e1, e2⟩ := hv <;> exact ⟨vs, e1, this vs e2⟩
theorem meetS_ok : ∀ {l r : List (Option SV)} {s : PS}, l.length = r.length → (meetS (.ite c) s l r).1.length = l.length ∧ s.ps <+: (meetS (.ite c) s l r).2.ps ∧
    ∀ {t : Nat} {v : SV}, (meetS (.ite c) s l r).1[t]? = some (some v) → ∃ a b, l[t]? = some (some a) ∧ r[t]? = some (some b) ∧ MOk c SV.ids SV.V a b v (meetS (.ite c) s l r).2
  | [], [], s, _ => by simp [meetS]
  | x :: l, y :: r, s, hlen => by
    have skip : ∀ {q : List (Option SV) × PS}, meetS (.ite c) s (x :: l) (y :: r) = (none :: (meetS (.ite c) s l r).1, (meetS (.ite c) s l r).2) → (meetS (.ite c) s (x :: l) (y :: r)).1.length = (x :: l).length ∧ s.ps <+: (meetS (.ite c) s (x :: l) (y :: r)).2.ps ∧
        ∀ {t : Nat} {v : SV}, (meetS (.ite c) s (x :: l) (y :: r)).1[t]? = some (some v) → ∃ a b, (x :: l)[t]? = some (some a) ∧ (y :: r)[t]? = some (some b) ∧ MOk c SV.ids SV.V a b v (meetS (.ite c) s (x :: l) (y :: r)).2 := fun {q} e => by
      rw [e]
      obtain ⟨h1, h2, h3⟩ := meetS_ok (l := l) (r := r) (s := s) (by simpa using hlen)
      refine ⟨by simp [h1], h2, fun {t v} ht => ?_⟩
      cases t with
      | zero => simp at ht
      | succ t => simpa using h3 (t := t) (by simpa using ht)
    cases x with
    | none => exact skip (q := ([], s)) (by simp [meetS])
    | some a =>
      cases y with
      | none => exact skip (q := ([], s)) (by simp [meetS])
      | some b =>
        cases hm : meetV (.ite c) s a b with
        | none => exact skip (q := ([], s)) (by simp [meetS, hm])
        | some q =>
          obtain ⟨v0, s1⟩ := q
          simp only [meetS, hm]
          obtain ⟨h1, h2, h3⟩ := meetS_ok (l := l) (r := r) (s := s1) (by simpa using hlen)
          obtain ⟨g1, g2⟩ := meetV_ok hm
          refine ⟨by simp [h1], g1.trans h2, fun {t v} ht => ?_⟩
          cases t with
          | zero => simp at ht; subst ht; exact ⟨a, b, rfl, rfl, fun ps hp => g2 ps (h2.trans hp)⟩
          | succ t => simpa using h3 (t := t) (by simpa using ht)
  | [], _ :: _, s, h => by simp at h
  | _ :: _, [], s, h => by simp at h
/-- what a meeting of blocks is -/
def BOk (c : X) (a b r : Blk) (s' : PS) : Prop :=
  ∀ ps, s'.ps <+: ps → r.ids (fun id => decide (id < ps.length)) = true ∧ ∀ (T : Tab) (η : Env) (ρ : Plc) (w : World) (Z : Nat → Prop) (q : Pl), (cond (c.d T η).bool a b).V T η ρ w Z q → r.V T η (plc ρ (mu (c.d T η).bool ps)) w Z q
theorem meetB_ok {A B : Option Blk} {r : Blk} (h : meetB (.ite c) s A B = some (r, s')) : s.ps <+: s'.ps ∧ ∃ a b, A = some a ∧ B = some b ∧ a.mut = r.mut ∧ b.mut = r.mut ∧ BOk c a b r s' := by
  unfold meetB at h
  split at h
  · simp only [Option.map_eq_some_iff] at h
    obtain ⟨⟨x, s1⟩, h1, h2⟩ := h
    simp only [Prod.mk.injEq] at h2; obtain ⟨rfl, rfl⟩ := h2
    obtain ⟨g1, g2⟩ := meetL_ok h1
    refine ⟨g1, _, _, rfl, rfl, rfl, rfl, fun ps hp => ⟨(g2 ps hp).1, fun T η ρ w Z q hv => ?_⟩⟩
    have := (g2 ps hp).2 T η ρ w Z
    cases hb : (c.d T η).bool <;> rw [hb] at hv this <;> obtain ⟨e1, e2, vs, e3, e4⟩ := hv <;> exact ⟨e1, e2, vs, this vs e3, e4⟩
  · split at h
    · rename_i hk; obtain ⟨rfl, rfl⟩ := hk
      simp only [Md.x, Option.some.injEq, Prod.mk.injEq] at h; obtain ⟨rfl, rfl⟩ := h
      refine ⟨List.prefix_refl _, _, _, rfl, rfl, rfl, rfl, fun ps hp => ⟨rfl, fun T η ρ w Z q hv => ?_⟩⟩
      simp only [Blk.V, ite_d]
      cases hb : (c.d T η).bool <;> rw [hb] at hv <;> exact hv
    · cases h
  · split at h
    · rename_i hk; subst hk
      simp only [Md.x, Option.some.injEq, Prod.mk.injEq] at h; obtain ⟨rfl, rfl⟩ := h
      refine ⟨List.prefix_refl _, _, _, rfl, rfl, rfl, rfl, fun ps hp => ⟨rfl, fun T η ρ w Z q hv => ?_⟩⟩
      simp only [Blk.V, ite_d]
      cases hb : (c.d T η).bool <;> rw [hb] at hv <;> exact hv
    · cases h
  · cases h
  · cases h
  · cases h
theorem meetBs_ok {b1 b2 : BK} : ∀ {n k : Nat} {s : PS}, s.ps <+: (meetBs (.ite c) b1 b2 n k s).2.ps ∧
    ∀ {j : Nat} {r : Blk}, (meetBs (.ite c) b1 b2 n k s).1[j]? = some (some r) → ∃ i1 i2 a b, (meetBs (.ite c) b1 b2 n k s).2.ps[k + j]? = some (i1, i2) ∧ blkOr b1 (blkOr b2 none i2) i1 = some a ∧ blkOr b2 (blkOr b1 none i1) i2 = some b ∧ a.mut = r.mut ∧ b.mut = r.mut ∧ BOk c a b r (meetBs (.ite c) b1 b2 n k s).2
  | 0, k, s => by simp [meetBs]
  | n + 1, k, s => by
    cases hk : s.ps[k]? with
    | none => simp [meetBs, hk]
    | some q =>
      obtain ⟨i, j⟩ := q
      cases hm : meetB (.ite c) s (blkOr b1 (blkOr b2 none j) i) (blkOr b2 (blkOr b1 none i) j) with
      | none =>
        simp only [meetBs, hk, hm]
        obtain ⟨h1, h2⟩ := meetBs_ok (n := n) (k := k + 1) (s := s)
        refine ⟨h1, fun {t r} ht => ?_⟩
        cases t with
        | zero => simp at ht
        | succ t =>
          have := h2 (j := t) (by simpa using ht)
          rw [show k + 1 + t = k + (t + 1) by omega] at this
          exact this
      | some q =>
        obtain ⟨r0, s1⟩ := q
        simp only [meetBs, hk, hm]
        obtain ⟨h1, h2⟩ := meetBs_ok (n := n) (k := k + 1) (s := s1)
        obtain ⟨g1, a, b, g2, g3, g4, g5, g6⟩ := meetB_ok hm
        refine ⟨g1.trans h1, fun {t r} ht => ?_⟩
        cases t with
        | zero => simp at ht; subst ht; exact ⟨i, j, a, b, pre_get (g1.trans h1) hk, g2, g3, g4, g5, fun ps hp => g6 ps (h1.trans hp)⟩
        | succ t =>
          have := h2 (j := t) (by simpa using ht)
          rw [show k + 1 + t = k + (t + 1) by omega] at this
          exact this
end
theorem apart_inj {f : Option Nat × Option Nat → Option Nat} {ps : Pairs} {bk : List (Option Blk)} (h : apart f ps bk = true) {i j : Nat} {p q : Option Nat × Option Nat} {b c : Blk} {k : Nat} (hp : ps[i]? = some p) (hq : ps[j]? = some q)
    (hb : bk[i]? = some (some b)) (hc : bk[j]? = some (some c)) (hbm : b.mut = true) (hcm : c.mut = true) (h1 : f p = some k) (h2 : f q = some k) : i = j := by
  refine fm_inj (a := (p, some b)) (b := (q, some c)) (k := k) h ?_ ?_ ?_ ?_
  · rw [List.getElem?_zip_eq_some]; exact ⟨hp, hb⟩
  · rw [List.getElem?_zip_eq_some]; exact ⟨hq, hc⟩
  · simp [hbm, h1]
  · simp [hcm, h2]
section
variable {P : Program} {T : Tab} {η η' : Env} {ρ ρ1 : Plc} {S : List Nat} {w0 : World} {Z0 Z : Nat → Prop} {n m M : Nat} {a : Act} {w : World} {F : Fs} {σ τ r : St} {c : X}
/-- STATES THAT MEET -/
theorem meetSt_ok (h : meetSt M (.ite c) n σ τ = some r) : r.sl.length = σ.sl.length ∧ r.sl.length = τ.sl.length ∧ σ.nv ≤ r.nv ∧ τ.nv ≤ r.nv ∧ M ≤ r.bk.length ∧
    ∀ (T : Tab) (η : Env) (ρ : Plc) (Z : Nat → Prop) (a : Act) (w : World) (S : List Nat) (Z0 : Nat → Prop) (w0 : World), Lies T η S Z0 w0 (cond (c.d T η).bool σ τ) ρ Z a w → ∃ ρ', Lies T η S Z0 w0 r ρ' Z a w ∧ ∀ id, id < M → ρ' id = ρ id := by
  unfold meetSt at h
  dsimp only at h
  have hs := meetS_ok (c := c) (l := σ.sl) (r := τ.sl) (s := ⟨(List.range M).map fun i => (some i, some i), n⟩)
  generalize meetS (.ite c) ⟨(List.range M).map fun i => (some i, some i), n⟩ σ.sl τ.sl = q at h hs
  have hb := meetBs_ok (c := c) (b1 := σ.b) (b2 := τ.b) (n := 200) (k := 0) (s := q.2)
  generalize meetBs (.ite c) σ.b τ.b 200 0 q.2 = t at h hb
  split at h
  · rename_i hc
    obtain ⟨c1, c2, c3, c4⟩ := hc
    simp at h; subst h
    obtain ⟨s1, s2, s3⟩ := hs c1
    obtain ⟨b1, b2⟩ := hb
    dsimp only at *
    have hpre : ((List.range M).map fun i => ((some i, some i) : Option Nat × Option Nat)) <+: t.2.ps := s2.trans b1
    have hM : M ≤ t.1.length := by have := hpre.length_le; simp at this; omega
    refine ⟨s1, s1.trans c1, by omega, by omega, hM, fun T η ρ Z a w S Z0 w0 hl => ⟨plc ρ (mu (c.d T η).bool t.2.ps), ⟨?_, ?_⟩, fun id hid => ?_⟩⟩
    · have hblk : ∀ id b, t.1.getD id none = some b → ∃ i1 i2 x y, t.2.ps[id]? = some (i1, i2) ∧ t.1[id]? = some (some b) ∧ blkOr σ.b (blkOr τ.b none i2) i1 = some x ∧ blkOr τ.b (blkOr σ.b none i1) i2 = some y ∧ x.mut = b.mut ∧ y.mut = b.mut ∧ BOk c x y b t.2 := fun id b hb => by
        obtain ⟨i1, i2, x, y, g1, g2⟩ := b2 (getD_someB hb)
        rw [Nat.zero_add] at g1
        exact ⟨i1, i2, x, y, g1, getD_someB hb, g2⟩
      have hor : ∀ {bk : BK} {o : Option Blk} {i : Option Nat} {x : Blk}, blkOr bk o i = some x → BKV T η ρ w Z bk → x.V T η ρ w Z (match i with | some i => ρ i | none => ⟨0, 0, 0, 0, true⟩) := fun {bk o i x} hx hbk => by
        unfold blkOr at hx
        split at hx
        · exact hbk _ _ hx
        · split at hx
          · split at hx
            · rename_i he; simp at hx; subst hx; exact nil_row he
            · cases hx
          · cases hx
      have hlen : (cond (c.d T η).bool σ τ).sl.length = q.1.length := by cases (c.d T η).bool <;> simp only [cond] <;> omega
      rw [← frz_nil ρ Z]
      show Rel T η S Z0 w0 q.1.length _ _ _ a w
      rw [← hlen]
      refine hl.1.weaken (ws := []) nofun ?_ ?_ ?_ ?_ ?_ ?_
      · rw [frz_nil]
        intro t' v hv
        obtain ⟨x, y, g1, g2, g3⟩ := s3 (getD_some hv)
        refine (g3 t.2.ps b1).2 T η ρ w Z _ ?_
        have := hl.1.sl t' (cond (c.d T η).bool x y)
        cases hbv : (c.d T η).bool <;> rw [hbv] at this <;> refine this ?_ <;> simp [St.fs, List.getD_eq_getElem?_getD, g1, g2]
      · rw [frz_nil]
        intro id b hb
        obtain ⟨i1, i2, x, y, g1, g0, g2, g3, g4, g5, g6⟩ := hblk id b hb
        refine (g6 t.2.ps (List.prefix_refl _)).2 T η ρ w Z _ ?_
        have hbk := hl.1.mem.bk
        unfold plc
        rw [mu_get g1]
        cases hbv : (c.d T η).bool <;> rw [hbv] at hbk
        · exact hor g3 hbk
        · exact hor g2 hbk
      · intro id b hb hm i hi
        refine ⟨nofun, ?_⟩
        obtain ⟨i1, i2, x, y, g1, g0, g2, g3, g4, g5, g6⟩ := hblk id b hb
        rw [mu_get g1] at hi
        cases hbv : (c.d T η).bool <;> rw [hbv] at hi <;> simp only [cond] at hi <;> subst hi
        · exact ⟨y, g3, g5.trans hm⟩
        · exact ⟨x, g2, g4.trans hm⟩
      · intro i j b d k hi hj hbm hdm h1 h2
        obtain ⟨i1, i2, x, y, g1, g0, -⟩ := hblk i b hi
        obtain ⟨j1, j2, x', y', k1, k0, -⟩ := hblk j d hj
        rw [mu_get g1] at h1
        rw [mu_get k1] at h2
        cases hbv : (c.d T η).bool <;> rw [hbv] at h1 h2
        · exact apart_inj c4 g1 k1 g0 k0 hbm hdm h1 h2
        · exact apart_inj c3 g1 k1 g0 k0 hbm hdm h1 h2
      · intro t' v hv
        obtain ⟨x, y, g1, g2, g3⟩ := s3 (getD_some hv)
        have := (g3 t.2.ps b1).1
        simpa only [St.fs, c2] using this
      · intro id b hb
        obtain ⟨i1, i2, x, y, g1, g0, g2, g3, g4, g5, g6⟩ := hblk id b hb
        refine ⟨by simpa only [St.fs, c2] using (g6 t.2.ps (List.prefix_refl _)).1, ?_⟩
        simpa [St.fs] using (List.getElem?_eq_some_iff.1 g0).1
    · intro p hp
      simp only [List.mem_filter, decide_eq_true_eq] at hp
      have := hl.2
      cases hbv : (c.d T η).bool <;> rw [hbv] at this
      · exact this p hp.2
      · exact this p hp.1
    · have : t.2.ps[id]? = some (some id, some id) := pre_get hpre (by simp [hid])
      unfold plc
      rw [mu_get this]
      cases (c.d T η).bool <;> rfl
  · cases h
end
end
end Go.Sz
