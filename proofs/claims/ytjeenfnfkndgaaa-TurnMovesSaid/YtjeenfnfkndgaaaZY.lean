/- The evaluator: functions; contracts. -/
import Derived.Test.YtjeenfnfkndgaaaZX
namespace Go.Sz
open Go Go.RowKit
noncomputable section
/-- where a contract's blocks are -/
def rho (h : Nat) (ρ ρ' : Plc) (l : List (Nat × Option Nat)) : Plc := fun i => if i < h then ρ i else match l.find? (·.1 == i) with
  | some (_, some id) => ρ' id
  | some (_, none) => ⟨0, 0, 0, 0, true⟩
  | none => ρ i
def FInv (h : Nat) (bk : BK) (nw : List Blk) (s : FE) : Prop := ∀ q ∈ s.id, h ≤ q.1 ∧ ∃ t e x, nw[q.1 - h]? = some (.row t e x) ∧
  ((∃ id y, q.2 = some id ∧ h ≤ id ∧ bk id = some (.row t e y) ∧ (2, y, x) ∈ s.q) ∨ (q.2 = none ∧ 0 < e.size ∧ (2, .lit .nil, x) ∈ s.q))
theorem find_pre {α : Type} {p : α → Bool} {l m : List α} (h : l <+: m) {x : α} (hx : l.find? p = some x) : m.find? p = some x := by
  obtain ⟨t, rfl⟩ := h
  rw [List.find?_append, hx]; rfl
theorem bindId_spec {s s' : FE} {i : Nat} {b : Option Nat} (h : s.bindId i b = some s') : s'.q = s.q ∧ s.id <+: s'.id ∧ s'.id.find? (·.1 == i) = some (i, b) ∧ ∀ r ∈ s'.id, r ∈ s.id ∨ r = (i, b) := by
  unfold FE.bindId at h
  split at h
  · rename_i q hq
    split at h
    · rename_i hc
      simp at h; subst h
      refine ⟨rfl, List.prefix_refl _, ?_, fun r hr => .inl hr⟩
      have := List.find?_some hq
      simp only [beq_iff_eq] at this
      rw [hq, ← this, ← hc.1]
    · cases h
  · rename_i hq
    simp at h; subst h
    refine ⟨rfl, List.prefix_append _ _, ?_, fun r hr => by simpa using hr⟩
    rw [List.find?_append, hq]; simp
theorem FInv.up {h : Nat} {bk : BK} {nw : List Blk} {s s' : FE} (hi : FInv h bk nw s) (hid : ∀ r ∈ s'.id, r ∈ s.id) (hq : ∀ p ∈ s.q, p ∈ s'.q) : FInv h bk nw s' := fun q hq' => by
  obtain ⟨h1, t, e, x, h2, h3⟩ := hi q (hid q hq')
  refine ⟨h1, t, e, x, h2, ?_⟩
  rcases h3 with ⟨id, y, g1, g2, g3, g4⟩ | ⟨g1, g2, g3⟩
  · exact .inl ⟨id, y, g1, g2, g3, hq _ g4⟩
  · exact .inr ⟨g1, g2, hq _ g3⟩
section
variable {P : Program} {T : Tab} {η η' : Env} {ρ ρ' : Plc} {S : List Nat} {w0 : World} {Z0 Z Z' : Nat → Prop} {n m M d h : Nat} {a : Act} {w w' : World} {F : Fs} {K : List Con} {σ : St} {bk : BK} {nw : List Blk} {s s' : FE}
/-- what a comparison at the end shows -/
def FOk (T : Tab) (η : Env) (h : Nat) (bk : BK) (nw : List Blk) (ρ ρ' : Plc) (s s' : FE) (V V' : Plc → Value → Prop) : Prop :=
  FInv h bk nw s' ∧ s.id <+: s'.id ∧ (∀ p ∈ s.q, p ∈ s'.q) ∧ ((∀ p ∈ s'.q, finOk T η p) → ∀ l, s'.id <+: l → ∀ v, V' ρ' v → V (rho h ρ ρ' l) v)
theorem finSc_ok (hρ : ∀ i, i < h → ρ' i = ρ i) (hbk : BKV T η ρ' w Z bk) (hi : FInv h bk nw s) {a b : Sc} (hf : finSc h bk nw s a b = some s') : FOk T η h bk nw ρ ρ' s s' (fun r v => a.V T η r w Z v) (fun r v => b.V T η r w Z v) := by
  have same : ∀ {V V' : Plc → Value → Prop}, (∀ r v, V' ρ' v → V r v) → FOk T η h bk nw ρ ρ' s s V V' := fun hv => ⟨hi, List.prefix_refl _, fun _ hp => hp, fun _ l _ v hv' => hv _ _ hv'⟩
  have add : ∀ {p : Nat × X × X} {V V' : Plc → Value → Prop}, (finOk T η p → ∀ r v, V' ρ' v → V r v) → FOk T η h bk nw ρ ρ' s { s with q := s.q ++ [p] } V V' := fun {p V V'} hv =>
    ⟨hi.up (fun _ hr => hr) (fun _ hp => List.mem_append_left _ hp), List.prefix_refl _, fun _ hp => List.mem_append_left _ hp, fun hq l _ v hv' => hv (hq p (by simp)) _ _ hv'⟩
  unfold finSc at hf
  split at hf
  · split at hf
    · rename_i hk; subst hk
      simp at hf; subst hf
      exact add fun hq r v hv => by simp only [Sc.V] at hv ⊢; rw [hv]; exact congrArg _ hq
    · cases hf
  · simp at hf; subst hf
    exact add fun hq r v hv => by simp only [Sc.V] at hv ⊢; rw [hv]; exact congrArg _ hq
  · simp at hf; subst hf
    exact add fun hq r v hv => by
      have hq : _ = _ := hq
      simp only [Sc.V] at hv ⊢; rw [← hq]; exact hv
  · simp at hf; subst hf
    exact add fun hq r v hv => by
      have hq : _ = _ := hq
      simp only [Sc.V] at hv ⊢; subst hv; rw [← hq]
      exact ⟨none, 0, 0, rfl, rfl, Nat.le_refl _, fun m hm => by simp [] at hm⟩
  · split at hf
    · rename_i e' y hs
      split at hf
      · rename_i he; subst he
        simp at hf; subst hf
        exact add fun hq r v hv => by
          have hq : _ = _ := hq
          have := sliceX_R (Z' := Z) hbk hs hv (fun _ h => h) nofun
          simp only [Sc.V]; rw [← hq]; exact this
      · cases hf
    · cases hf
  · rename_i i id
    split at hf
    · cases hf
    · rename_i hlt
      split at hf
      · rename_i t e x t' e' y h1 h2
        split at hf
        · rename_i hc
          obtain ⟨rfl, rfl, hge⟩ := hc
          obtain ⟨g1, g2, g3, g4⟩ := bindId_spec hf
          refine ⟨fun q hq => ?_, g2, fun p hp => by rw [g1]; exact List.mem_append_left _ hp, fun hq l hl v hv => ?_⟩
          · rcases g4 q hq with hq | rfl
            · exact (hi.up (s' := ⟨s'.q, s.id⟩) (fun _ hr => hr) (fun p hp => by rw [g1]; exact List.mem_append_left _ hp)) q hq
            · exact ⟨by omega, t, e, x, h1, .inl ⟨id, y, rfl, hge, h2, by rw [g1]; simp⟩⟩
          · simp only [Sc.V] at hv ⊢
            unfold rho
            rw [if_neg (by omega), find_pre hl g3]
            exact hv
        · cases hf
      · cases hf
  · rename_i i
    split at hf
    · cases hf
    · rename_i hlt
      split at hf
      · rename_i t e x h1
        split at hf
        · cases hf
        · rename_i he
          obtain ⟨g1, g2, g3, g4⟩ := bindId_spec hf
          refine ⟨fun q hq => ?_, g2, fun p hp => by rw [g1]; exact List.mem_append_left _ hp, fun hq l hl v hv => ?_⟩
          · rcases g4 q hq with hq | rfl
            · exact (hi.up (s' := ⟨s'.q, s.id⟩) (fun _ hr => hr) (fun p hp => by rw [g1]; exact List.mem_append_left _ hp)) q hq
            · exact ⟨by omega, t, e, x, h1, .inr ⟨rfl, Nat.pos_of_ne_zero he, by rw [g1]; simp⟩⟩
          · simp only [Sc.V] at hv ⊢
            unfold rho
            rw [if_neg (by omega), find_pre hl g3]
            exact hv
      · cases hf
  · split at hf
    · rename_i hc
      obtain ⟨rfl, rfl, hlt⟩ := hc
      simp at hf; subst hf
      refine ⟨hi, List.prefix_refl _, fun _ hp => hp, fun _ l _ v hv => ?_⟩
      have hr : rho h ρ ρ' l _ = ρ' _ := (if_pos hlt).trans (hρ _ hlt).symm
      simp only [Sc.V] at hv ⊢
      rw [hr]; exact hv
    · cases hf
  · simp at hf; subst hf; exact same fun _ _ hv => hv
  · simp at hf; subst hf; exact same fun _ _ hv => hv
  · split at hf
    · rename_i hc; subst hc
      simp at hf; subst hf; exact same fun _ _ hv => hv
    · cases hf
  · split at hf
    · rename_i hc; subst hc
      simp at hf; subst hf; exact same fun _ _ hv => hv
    · cases hf
  · cases hf
/-- the same for lists of cells -/
def FOkL (T : Tab) (η : Env) (h : Nat) (bk : BK) (nw : List Blk) (ρ ρ' : Plc) (s s' : FE) (V V' : Plc → List Value → Prop) : Prop :=
  FInv h bk nw s' ∧ s.id <+: s'.id ∧ (∀ p ∈ s.q, p ∈ s'.q) ∧ ((∀ p ∈ s'.q, finOk T η p) → ∀ l, s'.id <+: l → ∀ v, V' ρ' v → V (rho h ρ ρ' l) v)
theorem finL_ok (hρ : ∀ i, i < h → ρ' i = ρ i) (hbk : BKV T η ρ' w Z bk) : ∀ {a b : List Sc} {s s' : FE}, FInv h bk nw s → finL h bk nw s a b = some s' → FOkL T η h bk nw ρ ρ' s s' (fun r v => VL T η r w Z a v) (fun r v => VL T η r w Z b v)
  | [], [], s, s', hi, hf => by simp [finL] at hf; subst hf; exact ⟨hi, List.prefix_refl _, fun _ hp => hp, fun _ l _ v hv => hv⟩
  | a :: l, b :: m, s, s', hi, hf => by
    simp only [finL] at hf
    split at hf
    · rename_i s1 h1
      obtain ⟨g1, g2, g3, g4⟩ := finSc_ok hρ hbk hi h1
      obtain ⟨k1, k2, k3, k4⟩ := finL_ok hρ hbk g1 hf
      refine ⟨k1, g2.trans k2, fun p hp => k3 p (g3 p hp), fun hq l hl v hv => ?_⟩
      obtain ⟨u, us, rfl, f1, f2⟩ := hv
      exact ⟨u, us, rfl, g4 (fun p hp => hq p (k3 p hp)) l (k2.trans hl) u f1, k4 hq l hl us f2⟩
    · cases hf
  | [], _ :: _, s, s', hi, hf => by simp [finL] at hf
  | _ :: _, [], s, s', hi, hf => by simp [finL] at hf
theorem fin1_ok (hρ : ∀ i, i < h → ρ' i = ρ i) (hbk : BKV T η ρ' w Z bk) (hi : FInv h bk nw s) {a b : S1} (hf : fin1 h bk nw s a b = some s') : FOk T η h bk nw ρ ρ' s s' (fun r v => a.V T η r w Z v) (fun r v => b.V T η r w Z v) := by
  cases a <;> cases b <;> simp only [fin1, reduceCtorEq] at hf
  · exact finSc_ok hρ hbk hi hf
  · obtain ⟨g1, g2, g3, g4⟩ := finL_ok hρ hbk hi hf
    refine ⟨g1, g2, g3, fun hq l hl v hv => ?_⟩
    obtain ⟨vs, f1, f2⟩ := hv
    exact ⟨vs, f1, g4 hq l hl vs f2⟩
theorem finT_ok (hρ : ∀ i, i < h → ρ' i = ρ i) (hbk : BKV T η ρ' w Z bk) : ∀ {a b : List S1} {s s' : FE}, FInv h bk nw s → finT h bk nw s a b = some s' → FOkL T η h bk nw ρ ρ' s s' (fun r v => VT T η r w Z a v) (fun r v => VT T η r w Z b v)
  | [], [], s, s', hi, hf => by simp [finT] at hf; subst hf; exact ⟨hi, List.prefix_refl _, fun _ hp => hp, fun _ l _ v hv => hv⟩
  | a :: l, b :: m, s, s', hi, hf => by
    simp only [finT] at hf
    split at hf
    · rename_i s1 h1
      obtain ⟨g1, g2, g3, g4⟩ := fin1_ok hρ hbk hi h1
      obtain ⟨k1, k2, k3, k4⟩ := finT_ok hρ hbk g1 hf
      refine ⟨k1, g2.trans k2, fun p hp => k3 p (g3 p hp), fun hq l hl v hv => ?_⟩
      obtain ⟨u, us, rfl, f1, f2⟩ := hv
      exact ⟨u, us, rfl, g4 (fun p hp => hq p (k3 p hp)) l (k2.trans hl) u f1, k4 hq l hl us f2⟩
    · cases hf
  | [], _ :: _, s, s', hi, hf => by simp [finT] at hf
  | _ :: _, [], s, s', hi, hf => by simp [finT] at hf
theorem finV_ok (hρ : ∀ i, i < h → ρ' i = ρ i) (hbk : BKV T η ρ' w Z bk) (hi : FInv h bk nw s) {a b : SV} (hf : finV h bk nw s a b = some s') : FOk T η h bk nw ρ ρ' s s' (fun r v => a.V T η r w Z v) (fun r v => b.V T η r w Z v) := by
  cases a <;> cases b <;> simp only [finV, reduceCtorEq] at hf
  · exact fin1_ok hρ hbk hi hf
  · obtain ⟨g1, g2, g3, g4⟩ := finT_ok hρ hbk hi hf
    refine ⟨g1, g2, g3, fun hq l hl v hv => ?_⟩
    obtain ⟨vs, f1, f2⟩ := hv
    exact ⟨vs, f1, g4 hq l hl vs f2⟩
theorem finP_ok (hρ : ∀ i, i < h → ρ' i = ρ i) (hbk : BKV T η ρ' w Z bk) : ∀ {l : List (Option Blk)} {i : Nat} {s s' : FE}, FInv h bk nw s → finP h bk nw s i l = some s' → FInv h bk nw s' ∧ s.id <+: s'.id ∧ (∀ p ∈ s.q, p ∈ s'.q) ∧
    ∀ j b, l[j]? = some (some b) → (∃ c, bk (i + j) = some c ∧ c.mut = true) ∧ b.mut = true ∧ ((∀ p ∈ s'.q, finOk T η p) → ∀ l, s'.id <+: l → b.V T η (rho h ρ ρ' l) w Z (ρ' (i + j)))
  | [], i, s, s', hi, hf => by simp [finP] at hf; subst hf; exact ⟨hi, List.prefix_refl _, fun _ hp => hp, fun j b hj => by simp at hj⟩
  | none :: l, i, s, s', hi, hf => by
    simp only [finP] at hf
    obtain ⟨k1, k2, k3, k4⟩ := finP_ok hρ hbk hi hf
    refine ⟨k1, k2, k3, fun j b hj => ?_⟩
    cases j with
    | zero => simp at hj
    | succ j =>
      have := k4 j b (by simpa using hj)
      rwa [show i + 1 + j = i + (j + 1) by omega] at this
  | some (.box a) :: l, i, s, s', hi, hf => by
    simp only [finP] at hf
    split at hf
    · rename_i c hb
      split at hf
      · rename_i s1 h1
        obtain ⟨g1, g2, g3, g4⟩ := finL_ok hρ hbk hi h1
        obtain ⟨k1, k2, k3, k4⟩ := finP_ok hρ hbk g1 hf
        refine ⟨k1, g2.trans k2, fun p hp => k3 p (g3 p hp), fun j b hj => ?_⟩
        cases j with
        | zero =>
          simp at hj; subst hj
          refine ⟨⟨_, hb, rfl⟩, rfl, fun hq l hl => ?_⟩
          obtain ⟨f1, f2, vs, f3, f4⟩ := hbk _ _ hb
          exact ⟨f1, f2, vs, g4 (fun p hp => hq p (k3 p hp)) l (k2.trans hl) vs f3, f4⟩
        | succ j =>
          have := k4 j b (by simpa using hj)
          rwa [show i + 1 + j = i + (j + 1) by omega] at this
      · cases hf
    · cases hf
  | some (.row t e x) :: l, i, s, s', hi, hf => by
    simp only [finP] at hf
    split at hf
    · rename_i t' e' y hb
      split at hf
      · rename_i hc
        obtain ⟨rfl, rfl⟩ := hc
        obtain ⟨k1, k2, k3, k4⟩ := finP_ok hρ hbk (hi.up (s' := { s with q := s.q ++ [(2, y, x)] }) (fun _ hr => hr) (fun _ hp => List.mem_append_left _ hp)) hf
        refine ⟨k1, k2, fun p hp => k3 p (List.mem_append_left _ hp), fun j b hj => ?_⟩
        cases j with
        | zero =>
          simp at hj; subst hj
          refine ⟨⟨_, hb, rfl⟩, rfl, fun hq l hl => ?_⟩
          have := hbk _ _ hb
          have hyx : y.d T η = x.d T η := hq (2, y, x) (k3 (2, y, x) (by simp))
          simp only [Blk.V] at this ⊢
          rw [← hyx]; exact this
        | succ j =>
          have := k4 j b (by simpa using hj)
          rwa [show i + 1 + j = i + (j + 1) by omega] at this
      · cases hf
    · cases hf
  | some (.froz e x) :: l, i, s, s', hi, hf => by simp [finP] at hf
/-- the blocks that were handed in -/
def handed (h : Nat) (ρ : Plc) : List Nat := (List.range h).filterMap fun i => if (ρ i).nil then none else some (ρ i).b
theorem mem_handed {g : Nat} : g ∈ handed h ρ ↔ ∃ i, i < h ∧ (ρ i).at g := by
  unfold handed
  rw [List.mem_filterMap]
  constructor
  · rintro ⟨i, h1, h2⟩
    split at h2
    · cases h2
    · rename_i hn
      simp at h2
      exact ⟨i, List.mem_range.1 h1, by simpa using hn, h2⟩
  · rintro ⟨i, h1, h2, h3⟩
    exact ⟨i, List.mem_range.2 h1, by simp [h2, h3]⟩
theorem finish_ok {c : Con} {fn : Func} {e : Ex} {Lf : Ex → St → BT → Env → Prop} {B : BT} (hfit : c.post.length = c.hp.length) (hlow : c.low n = true) (hag : Agree n η η') (hs : (finish P c fn e σ).sat T Lf B η') (hl : Lies T η' (handed c.hp.length ρ) Z w σ ρ' Z' a w') (hρ : ∀ i, i < c.hp.length → ρ' i = ρ i) :
    (e = .normal ∨ e = .ret) ∧ ∃ u r, (results fn a.tmps).run P w' = .ok u w' ∧ Did T η ρ w Z c.eff c.hp.length u w' r Z' := by
  unfold finish at hs
  split at hs
  · rename_i he
    refine ⟨he, ?_⟩
    split at hs
    · rename_i v hv
      obtain ⟨u, hu, huv⟩ := run_result hv hl
      split at hs
      · rename_i s hb
        obtain ⟨s0, hb1, hb2⟩ := bind_eq hb
        split at hs
        · rename_i hc
          simp only [Bool.and_eq_true, List.all_eq_true, List.mem_range] at hc
          obtain ⟨⟨hc1, hc2⟩, -⟩ := hc
          have hq : ∀ p ∈ s.q, finOk T η' p := fun p hp => by
            by_cases hpp : p.2.1 = p.2.2
            · unfold finOk; rw [hpp]; split <;> rfl
            · exact hs p (List.mem_filter.2 ⟨hp, by simpa using hpp⟩)
          obtain ⟨g1, g2, g3, g4⟩ := finV_ok hρ hl.1.mem.bk (show FInv c.hp.length σ.b c.nw ⟨[], []⟩ from nofun) hb1
          obtain ⟨k1, k2, k3, k4⟩ := finP_ok hρ hl.1.mem.bk g1 hb2
          unfold Con.low at hlow
          simp only [Bool.and_eq_true, List.all_eq_true] at hlow
          obtain ⟨⟨l1, l2⟩, l3⟩ := hlow
          have hlt : ∀ {i}, i < c.hp.length → rho c.hp.length ρ ρ' s.id i = ρ i := fun hi => if_pos hi
          have hwr : ∀ {i : Nat} {b : Option Blk}, (i, b) ∈ idxW 0 c.post ↔ c.post[i]? = some b := fun {i b} => by rw [mem_idxW]; simp
          have hpost : ∀ i, i < c.hp.length → ∃ b, c.post[i]? = some b := fun i hi => ⟨_, List.getElem?_eq_getElem (by omega)⟩
          -- which block is which
          have hnew : ∀ {k : Nat} {b : Blk}, c.nw[k]? = some b → ∃ t e x, b = .row t e x ∧ ((∃ id y, (c.hp.length + k, some id) ∈ s.id ∧ rho c.hp.length ρ ρ' s.id (c.hp.length + k) = ρ' id ∧ c.hp.length ≤ id ∧ σ.b id = some (.row t e y) ∧ y.d T η' = x.d T η') ∨
              (rho c.hp.length ρ ρ' s.id (c.hp.length + k) = ⟨0, 0, 0, 0, true⟩ ∧ 0 < e.size ∧ x.d T η' = .nil)) := fun {k b} hk => by
            have h1 := hc1 k (List.getElem?_eq_some_iff.1 hk).1
            cases hf : s.id.find? (·.1 == c.hp.length + k) with
            | none =>
              rw [List.find?_eq_none] at hf
              rw [List.any_eq_true] at h1
              obtain ⟨q, h2, h3⟩ := h1
              exact absurd h3 (hf q h2)
            | some q =>
              have hq1 := List.find?_some hf
              have hq2 := List.mem_of_find?_eq_some hf
              simp only [beq_iff_eq] at hq1
              obtain ⟨f1, t, e, x, f2, f3⟩ := k1 q hq2
              rw [hq1, Nat.add_sub_cancel_left, hk] at f2
              simp only [Option.some.injEq] at f2
              obtain ⟨q1, q2⟩ := q
              simp only at hq1 f3; subst hq1
              refine ⟨t, e, x, f2, ?_⟩
              rcases f3 with ⟨id, y, rfl, f4, f5, f6⟩ | ⟨rfl, f4, f5⟩
              · exact .inl ⟨id, y, hq2, by unfold rho; rw [if_neg (by omega), hf], f4, f5, hq _ f6⟩
              · exact .inr ⟨by unfold rho; rw [if_neg (by omega), hf], f4, (hq _ f5).symm⟩
          refine ⟨u, rho c.hp.length ρ ρ' s.id, hu, hl.1.keep.os, hl.1.keep.tape, hl.1.keep.output, hl.1.keep.size, fun id hid => ?_, ?_, fun g hg hno => ?_, fun id b hb => ?_, fun k b hk => ?_, fun k b hk hm g hg => ?_, fun k l b c' g hk hl' hm hm' hg hg' => ?_, hl.1.z0, hl.1.mem.zlt, fun g hg => ?_⟩
          · rcases hid with hid | hid
            · exact hlt hid
            · unfold rho
              have hid : c.hp.length + c.nw.length ≤ id := hid
              rw [if_neg (by omega)]
              have : s.id.find? (·.1 == id) = none := by
                rw [List.find?_eq_none]
                intro q hq'
                obtain ⟨f1, t, e, x, f2, -⟩ := k1 q hq'
                have := (List.getElem?_eq_some_iff.1 f2).1
                simp; omega
              rw [this]
          · exact (g4 (fun p hp => hq p (k3 p hp)) s.id k2 u huv).low hag l1
          · refine hl.1.keep.block g hg fun hS => ?_
            obtain ⟨i, h1, h2⟩ := mem_handed.1 hS
            obtain ⟨b, h3⟩ := hpost i h1
            exact hno (i, b) (hwr.2 h3) h2
          · have hp := hwr.1 hb
            have hi : id < c.hp.length := by have := (List.getElem?_eq_some_iff.1 hp).1; omega
            have := (k4 id b hp).2.2 hq s.id (List.prefix_refl _)
            rw [Nat.zero_add, hρ id hi] at this
            exact this.low hag (l3 _ (List.mem_of_getElem? hp))
          · obtain ⟨t, e, x, rfl, ⟨id, y, -, f1, -, f3, f4⟩ | ⟨f1, f2, f3⟩⟩ := hnew hk
            · rw [f1]
              refine Blk.V.low hag (l2 _ (List.mem_of_getElem? hk)) ?_
              have := hl.1.mem.bk _ _ f3
              simp only [Blk.V] at this ⊢
              rw [← f4]; exact this
            · rw [f1]
              refine Blk.V.low hag (l2 _ (List.mem_of_getElem? hk)) ?_
              have := nil_row (T := T) (η := η') (ρ := rho c.hp.length ρ ρ' s.id) (w := w') (Z := Z') (t := t) f2
              simp only [Blk.V] at this ⊢
              rw [f3]; exact this
          · obtain ⟨t, e, x, rfl, ⟨id, y, -, f1, f2, f3, f4⟩ | ⟨f1, f2, f3⟩⟩ := hnew hk
            · rw [f1] at hg
              obtain ⟨o1, o2⟩ := hl.1.mem.own _ _ f3 rfl g hg
              refine ⟨o1, o2, ?_⟩
              rcases hl.1.own _ _ f3 rfl g hg with h1 | h1
              · exact .inl h1
              · obtain ⟨i, h2, h3⟩ := mem_handed.1 h1
                obtain ⟨b, h4⟩ := hpost i h2
                refine .inr ⟨i, hwr.2 ?_, h3⟩
                cases b with
                | none => exact h4
                | some b =>
                  obtain ⟨⟨c', h5, h6⟩, -⟩ := k4 i b h4
                  rw [Nat.zero_add] at h5
                  have := hl.1.mem.inj _ _ _ _ g h5 f3 h6 rfl (by rw [hρ i h2]; exact h3) hg
                  omega
            · rw [f1] at hg; cases hg.1
          · obtain ⟨t, e, x, rfl, ⟨id, y, f0, f1, f2, f3, f4⟩ | ⟨f1, f2, f3⟩⟩ := hnew hk
            · obtain ⟨t', e', x', rfl, ⟨id', y', p0, p1, p2, p3, p4⟩ | ⟨p1, p2, p3⟩⟩ := hnew hl'
              · rw [f1] at hg
                rw [p1] at hg'
                have := hl.1.mem.inj _ _ _ _ g f3 p3 rfl rfl hg hg'
                subst this
                obtain ⟨i1, e1⟩ := List.getElem?_of_mem f0
                obtain ⟨i2, e2⟩ := List.getElem?_of_mem p0
                have := fm_inj hc2 e1 e2 (k := id) rfl rfl
                subst this
                rw [e1] at e2
                simp at e2
                exact e2
              · rw [p1] at hg'; cases hg'.1
            · rw [f1] at hg; cases hg.1
          · rcases hl.1.zn g hg with h1 | h1 | h1
            · exact .inl h1
            · exact .inr (.inl h1)
            · obtain ⟨i, h2, h3⟩ := mem_handed.1 h1
              obtain ⟨b, h4⟩ := hpost i h2
              refine .inr (.inr ⟨(i, b), hwr.2 h4, fun b' hb' => ?_, h3⟩)
              simp only at hb'; subst hb'
              obtain ⟨⟨c', h5, h6⟩, -⟩ := k4 i b' h4
              rw [Nat.zero_add] at h5
              exact absurd hg (hl.1.mem.own _ _ h5 h6 g (by rw [hρ i h2]; exact h3)).2
        · exact hs.elim
      · exact hs.elim
    · exact hs.elim
  · exact hs.elim
end
end
end Go.Sz
