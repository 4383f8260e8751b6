/- The evaluator: a law by its contract. -/
import Derived.Test.YtjeenfnfkndgaaaZ1
import Derived.WideShapes
import Derived.ChangeSame
import Derived.Below
import Derived.Carry
import Derived.ChangeShapes
namespace Go.Sz
open Go Go.RowKit Go.ChangeShapes
noncomputable section
/-- cells that a variable can stand for -/
def CK.plain : CK → Bool
  | .cons (.int _) b | .cons .bool b | .cons .str b | .cons (.lst _) b => b.plain
  | .nil => true
  | _ => false
section
variable {P : Program} {T : Tab} {η : Env} {ρ : Plc} {w : World} {Z : Nat → Prop} {H : Type} {enc : TypeId × Value → H}
theorem D.get_hd (d : D) : d.get 0 = d.hd := by cases d <;> rfl
theorem D.get_tl (d : D) (j : Nat) : d.tl.get j = d.get (j + 1) := by cases d <;> simp [D.get, D.tl]
theorem vars_V : ∀ {c : CK} {n : Nat} {d : D} {us : List Value}, c.plain = true → R w Z c d us → (∀ j, j < c.size → η.d (n + j) = d.get j) → VL T η ρ w Z (varsFrom c n) us := by
  intro c
  induction c with
  | cons a b _ ih =>
    intro n d us hp h hd
    obtain ⟨v, us', rfl, h1, h2⟩ := h
    have h0 : η.d n = d.hd := by have := hd 0 (by simp [CK.size]); rwa [Nat.add_zero, D.get_hd] at this
    have ht : ∀ j, j < b.size → η.d (n + 1 + j) = d.tl.get j := fun j hj => by
      have := hd (j + 1) (by simp only [CK.size]; omega)
      rw [D.get_tl, show n + 1 + j = n + (j + 1) by omega]; exact this
    cases a with
    | int k => exact ⟨v, us', rfl, by simp only [Sc.V, X.d, h0]; simpa [R] using h1, ih (by simpa [CK.plain] using hp) h2 ht⟩
    | bool => exact ⟨v, us', rfl, by simp only [Sc.V, X.d, h0]; simpa [R] using h1, ih (by simpa [CK.plain] using hp) h2 ht⟩
    | str => exact ⟨v, us', rfl, by simp only [Sc.V, X.d, h0]; exact h1, ih (by simpa [CK.plain] using hp) h2 ht⟩
    | lst e => exact ⟨v, us', rfl, by simp only [Sc.V, X.d, h0]; exact h1, ih (by simpa [CK.plain] using hp) h2 ht⟩
    | _ => simp [CK.plain] at hp
  | nil => intro n d us _ h _; exact h
  | _ => intro n d us hp; simp [CK.plain] at hp
theorem okWide_arr {r : Reach} {base n : Nat} {t e : TypeId} {v : Value} (ht : P.underlying t = some (.array n e)) (h : Value.okWide P w r base t v) : ∃ cs, v = .agg cs := by
  simp only [Value.okWide, ht] at h
  obtain ⟨cs, h1, -⟩ := h
  exact ⟨cs, h1⟩
theorem okWide_str {r : Reach} {base : Nat} {t : TypeId} {fs : Array Field} {v : Value} (ht : P.underlying t = some (.struct fs)) (h : Value.okWide P w r base t v) : ∃ cs, v = .agg cs := by
  simp only [Value.okWide, ht] at h
  obtain ⟨cs, h1, -⟩ := h
  exact ⟨cs, h1⟩
theorem okWide_one {r : Reach} {base : Nat} {t : TypeId} {v : Value} (h1 : ∀ fs, P.underlying t ≠ some (.struct fs)) (h2 : ∀ n e, P.underlying t ≠ some (.array n e)) (h3 : (∃ k, P.underlying t = some (.int k)) ∨ P.underlying t = some .bool ∨ P.underlying t = some .string ∨ ∃ e, P.underlying t = some (.slice e)) (h : Value.okWide P w r base t v) : v.cells = #[v] := by
  unfold Value.okWide at h
  split at h
  · rename_i hs; exact absurd hs (h1 _)
  · rename_i hs; exact absurd hs (h2 _ _)
  · rcases h3 with ⟨k, h3⟩ | h3 | h3 | ⟨e, h3⟩ <;> simp only [Cell.okWide, h3] at h <;> cases v <;> simp_all [Cell.ok, Value.cells]
/-- a type of an argument -/
def argC (P : Program) (t : TypeId) (c : CK) : Bool := c.plain && match P.underlying t with
  | some (.struct _) | some (.array _ _) => decide (tAgg P t = some true)
  | some (.int _) | some .bool | some .string | some (.slice _) => decide (tAgg P t = some false) && decide (c.size = 1)
  | _ => false
def argTy (P : Program) (t : TypeId) : Bool := ckLay P 20 t && match ckT P 20 t with
  | some c => argC P t c
  | none => false
theorem arg_V {base : Nat} {t : TypeId} {v : Value} {d : DataW H} {p : List MemPlace} (ht : argTy P t = true) (hv : Value.okWide P w .any base t v) (h : DataW.Trod enc P w 0 (fun _ => true) true t v d p) :
    ∃ c, ckT P 20 t = some c ∧ (∀ e, P.underlying t ≠ some (.pointer e)) ∧ ∃ δ : D, D.wf c δ ∧ δ.len = c.size ∧ ∀ (T : Tab) (η : Env) (ρ : Plc) (n : Nat), (∀ j, j < c.size → η.d (n + j) = δ.get j) → (s1Of P t (varsFrom c n)).V T η ρ w (fun g => g < w.heap.size) v := by
  unfold argTy at ht
  rw [Bool.and_eq_true] at ht
  obtain ⟨h1, h2⟩ := ht
  cases hc : ckT P 20 t with
  | none => rw [hc] at h2; cases h2
  | some c =>
    rw [hc] at h2
    simp only [argC, Bool.and_eq_true] at h2
    obtain ⟨h2, h3⟩ := h2
    obtain ⟨fuel, hf⟩ := h
    obtain ⟨δ, g1, g2, g3, g4⟩ := trod_R fuel 20 hc h1 hf
    refine ⟨c, rfl, fun e he => (by rw [he] at h3; cases h3), δ, g2, g3, fun T η ρ n hη => ?_⟩
    have hV := vars_V (T := T) (ρ := ρ) h2 g1 hη
    have agg : tAgg P t = some true → (∃ cs, v = .agg cs) → (s1Of P t (varsFrom c n)).V T η ρ w (fun g => g < w.heap.size) v := fun ha ⟨cs, hcs⟩ => by
      subst hcs
      unfold s1Of
      rw [if_pos ha]
      exact ⟨cs.toList, by simp, by simpa [Value.cells] using hV⟩
    have one : tAgg P t = some false → c.size = 1 → v.cells = #[v] → (s1Of P t (varsFrom c n)).V T η ρ w (fun g => g < w.heap.size) v := fun ha hs hcs => by
      rw [hcs] at hV
      unfold s1Of
      rw [if_neg (by rw [ha]; decide)]
      have hl := hV.len
      generalize varsFrom c n = l at hV hl
      match l, hl with
      | [x], _ =>
        obtain ⟨u, us, e, k1, k2⟩ := hV
        simp at e
        rw [e.1]; exact k1
    split at h3
    · rename_i fs hu; exact agg (by simpa using h3) (okWide_str hu hv)
    · rename_i k e hu; exact agg (by simpa using h3) (okWide_arr hu hv)
    all_goals first
      | (rename_i k hu
         simp only [Bool.and_eq_true, decide_eq_true_eq] at h3
         exact one h3.1 h3.2 (okWide_one (by simp [hu]) (by simp [hu]) (by simp [hu]) hv))
      | (rename_i hu
         simp only [Bool.and_eq_true, decide_eq_true_eq] at h3
         exact one h3.1 h3.2 (okWide_one (by simp [hu]) (by simp [hu]) (by simp [hu]) hv))
      | cases h3
/-- the kinds of all arguments -/
def cksOf (P : Program) : List TypeId → CK
  | [] => .nil
  | t :: l => match ckT P 20 t with | some c => c.app (cksOf P l) | none => .nil
theorem args_V {base : Nat} : ∀ {ts : List TypeId} {vs : List Value} {ds : List (DataW H)} {p : List MemPlace} {n nv : Nat} {pat : List SV} {hp hp' : List Blk}, ts.all (argTy P) = true → DataW.TrodAll enc P w 0 (fun _ => true) true ts vs ds p →
    (∀ (j : Nat) t v, ts[j]? = some t → vs[j]? = some v → Value.okWide P w .any base t v) → patOf P ts n hp = some (pat, hp', nv) →
    ∃ δ : D, D.wf (cksOf P ts) δ ∧ ∀ (T : Tab) (η : Env) (ρ : Plc), (∀ j, η.d (n + j) = δ.get j) → All2 (fun (x : SV) (v : Value) => x.V T η ρ w (fun g => g < w.heap.size) v) pat vs
  | [], vs, ds, p, n, nv, pat, hp, hp', _, h, _, hpat => by
    simp only [patOf, Option.some.injEq, Prod.mk.injEq] at hpat
    obtain ⟨rfl, -, -⟩ := hpat
    obtain ⟨rfl, -, -⟩ := trodAll_nil h
    exact ⟨.nil, trivial, fun _ _ _ _ => .nil⟩
  | t :: ts, vs, ds, p, n, nv, pat, hp, hp', ha, h, hv, hpat => by
    simp only [List.all_cons, Bool.and_eq_true] at ha
    obtain ⟨v, vs', d, ds', p1, p2, rfl, rfl, rfl, h1, h2⟩ := trodAll_cons h
    obtain ⟨c, hc, hnp, δ, g1, g2, g3⟩ := arg_V ha.1 (hv 0 t v rfl rfl) h1
    have hchain : c.chain = true := by
      have := ha.1
      unfold argTy at this
      simp only [Bool.and_eq_true] at this
      have h3 := this.1
      unfold ckLay at h3
      rw [hc] at h3
      simp only [Bool.and_eq_true] at h3
      exact h3.1.2
    simp only [patOf, hc] at hpat
    simp only [Option.map_eq_some_iff] at hpat
    obtain ⟨⟨pat', hp2, nv2⟩, k1, k2⟩ := hpat
    simp only [Prod.mk.injEq] at k2
    obtain ⟨rfl, rfl, rfl⟩ := k2
    obtain ⟨E, e1, e2⟩ := args_V ha.2 h2 (fun j t v hj hj' => hv (j + 1) t v (by simpa using hj) (by simpa using hj')) k1
    have app_lt : ∀ {d e : D} {j : Nat}, j < d.len → (d.app e).get j = d.get j := by
      intro d
      induction d with
      | cons x y _ ih =>
        intro e j hj
        cases j with
        | zero => rfl
        | succ j => exact ih (by simpa [D.len] using hj)
      | _ => intro e j hj; simp [D.len] at hj
    have app_ge : ∀ {d e : D} {j : Nat}, (d.app e).get (d.len + j) = e.get j := by
      intro d
      induction d with
      | cons x y _ ih =>
        intro e j
        simp only [D.app, D.len]
        rw [show y.len + 1 + j = (y.len + j) + 1 by omega]
        exact ih
      | _ => intro e j; simp [D.app, D.len]
    refine ⟨δ.app E, by simp only [cksOf, hc]; exact wf_app hchain g2 g1 e1, fun T η ρ hη => .cons (g3 T η ρ n fun j hj => ?_) (e2 T η ρ fun j => ?_)⟩
    · rw [hη j]; exact app_lt (by omega)
    · rw [show n + c.size + j = n + (δ.len + j) by omega, hη]; exact app_ge
/-- A LAW BY ITS CONTRACT -/
theorem law_holds {base : Nat} {c : Con} {ts : List TypeId} {vs : List Value} {ds : List (DataW H)} {p : List MemPlace} (hc : c.Ok P T) (hts : ts.all (argTy P) = true) (hpat : (patOf P ts 0 []).map (fun q => (q.1, q.2.1)) = some (c.pat, []))
    (hcon : c.hp = [] ∧ c.nw = [] ∧ c.post = [] ∧ c.res = .v (.one (.bool (.lit (.b true))))) (hneed : ∀ (η : Env) (δ : D), D.wf (cksOf P ts) δ → (∀ j, η.d j = δ.get j) → ∀ x ∈ c.need, (x.d T η).bool = true)
    (h : DataW.TrodAll enc P w 0 (fun _ => true) true ts vs ds p) (hv : ∀ (j : Nat) t v, ts[j]? = some t → vs[j]? = some v → Value.okWide P w .any base t v) :
    Calls P c.f vs.toArray w fun e w' => e = .returned (.bool true) ∧ Below w.heap.size w w' := by
  simp only [Option.map_eq_some_iff] at hpat
  obtain ⟨⟨pat, hp, nv⟩, h1, h2⟩ := hpat
  simp only [Prod.mk.injEq] at h2
  obtain ⟨rfl, rfl⟩ := h2
  obtain ⟨δ, d1, d2⟩ := args_V hts h hv h1
  let η : Env := ⟨fun j => δ.get j, fun _ => ⟨.bool true, rfl⟩⟩
  have hη : ∀ j, η.d (0 + j) = δ.get j := fun j => by rw [Nat.zero_add]
  obtain ⟨c1, c2, c3, c4⟩ := hcon
  refine (hc η (fun _ => ⟨0, 0, 0, 0, true⟩) w (fun g => g < w.heap.size) vs ⟨fun id b hb => ?_, fun id b hb => ?_, fun i j b c g hb => ?_, fun _ h => h⟩ (d2 T η _ hη) (hneed η δ d1 fun _ => rfl)).mono ?_
  · rw [c1] at hb; simp at hb
  · rw [c1] at hb; simp at hb
  · rw [c1] at hb; simp at hb
  · rintro e w' ⟨v, ρ', Z', rfl, hd⟩
    have hval := hd.val
    simp only [Con.eff, c4, SV.V, S1.V, Sc.V, X.d, D.bool] at hval
    subst hval
    refine ⟨rfl, hd.os, hd.tape, hd.output, hd.size, fun k hk => hd.other k hk fun q hq => ?_⟩
    simp [Con.eff, c3, idxW] at hq
/-- arguments behind a call -/
theorem below_all (hl : laidOutB P = true) {w' : World} (hb : Below w.heap.size w w') : ∀ {ts : List TypeId} {vs : List Value} {ds : List (DataW H)} {p : List MemPlace}, (ts.all fun t => P.readableRec t && decide (t < P.types.size)) = true →
    DataW.TrodAll enc P w 0 (fun _ => true) true ts vs ds p → (∀ x ∈ p, x.block < w.heap.size) → DataW.TrodAll enc P w' 0 (fun b => decide (b < w.heap.size)) true ts vs ds p
  | [], vs, ds, p, _, h, _ => by
    obtain ⟨rfl, rfl, rfl⟩ := trodAll_nil h
    rfl
  | t :: ts, vs, ds, p, ht, h, hlt => by
    simp only [List.all_cons, Bool.and_eq_true, decide_eq_true_eq] at ht
    obtain ⟨v, vs', d, ds', p1, p2, rfl, rfl, rfl, h1, h2⟩ := trodAll_cons h
    exact ⟨p1, p2, Below.trod hl ht.1.1 ht.1.2 h1 hb (fun x hx => hlt x (by simp [hx])), below_all hl hb ht.2 h2 fun x hx => hlt x (by simp [hx]), rfl⟩
end
end
end Go.Sz
