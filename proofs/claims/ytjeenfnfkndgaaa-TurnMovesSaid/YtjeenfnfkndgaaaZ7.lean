/- The evaluator: what is left is reckoned at known values. -/
import Derived.Test.YtjeenfnfkndgaaaZ6
namespace Go.Sz
open Go
noncomputable section
section
variable {T : Tab}
/-- is it so at these values? -/
def Tree.run (T : Tab) (η : Env) : Tree → Bool
  | .leaf _ _ => false
  | .br c t e => match (c.d T η).bool with | true => t.run T η | false => e.run T η
  | .need l t => (l.all fun x => (x.d T η).bool) && t.run T η
  | .bad _ => false
  | .loop .. => false
  | .back .. => true
  | .join t c m => t.run T η && (match (c.d T η).bool with | true => m.run T η | false => true)
  | .met => true
  | .fin q => q.all fun p => match p.1 with
    | 0 => decide ((p.2.1.d T η).int = (p.2.2.d T η).int)
    | 1 => (p.2.1.d T η).bool == (p.2.2.d T η).bool
    | _ => decide (p.2.1.d T η = p.2.2.d T η)
def Tree.bks : Tree → List (Nat × Sub)
  | .br _ t e => t.bks ++ e.bks
  | .need _ t => t.bks
  | .back d s => [(d, s)]
  | .join t _ m => t.bks ++ m.bks
  | _ => []
theorem treeRun_ok {B : BT} {η : Env} : ∀ {t : Tree}, t.run T η = true → (∀ q ∈ t.bks, B q.1 η q.2) → t.sat T LF B η := by
  intro t
  induction t with
  | leaf e σ => intro h; cases h
  | br c t e iht ihe =>
    intro h hb
    refine ⟨fun hc => ?_, fun hc => ?_⟩
    · exact iht (by simpa [Tree.run, hc] using h) fun q hq => hb q (List.mem_append_left _ hq)
    · exact ihe (by simpa [Tree.run, hc] using h) fun q hq => hb q (List.mem_append_right _ hq)
  | need l t ih =>
    intro h hb
    simp only [Tree.run, Bool.and_eq_true, List.all_eq_true] at h
    exact ⟨h.1, ih h.2 hb⟩
  | bad _ => intro h; cases h
  | loop d n s t ih => intro h; cases h
  | back d s => intro _ hb; exact hb (d, s) (List.mem_singleton.2 rfl)
  | join t c m iht ihm =>
    intro h hb
    simp only [Tree.run, Bool.and_eq_true] at h
    refine ⟨iht h.1 fun q hq => hb q (List.mem_append_left _ hq), fun hc => ihm (by simpa [hc] using h.2) fun q hq => hb q (List.mem_append_right _ hq)⟩
  | met => intro _ _; trivial
  | fin q =>
    intro h _ p hp
    simp only [Tree.run, List.all_eq_true] at h
    have h := h p hp
    unfold finOk
    split at h
    · rename_i h0; simp only [h0]; exact of_decide_eq_true h
    · rename_i h0; simp only [h0]; exact beq_iff_eq.1 h
    · rename_i h0 h1
      split
      · exact absurd ‹_› h0
      · exact absurd ‹_› h1
      · exact of_decide_eq_true h
def X.only (F : Fs) (p : Nat → Bool) : X → Bool
  | .lit _ => true
  | .var j => p j
  | .o1 _ a => a.only F p
  | .o2 _ a b => a.only F p && b.only F p
  | .o3 _ a b c => a.only F p && b.only F p && c.only F p
  | .fn f a => F.any (·.1 == f) && a.only F p
def Tree.only (F : Fs) (p : Nat → Bool) : Tree → Bool
  | .br c t e => c.only F p && t.only F p && e.only F p
  | .need l t => l.all (X.only F p) && t.only F p
  | .join t c m => t.only F p && c.only F p && m.only F p
  | .fin q => q.all fun r => r.2.1.only F p && r.2.2.only F p
  | _ => true
variable {F : Fs} {p : Nat → Bool} {η η' : Env}
theorem only_d (hF : F.ok T) (hη : ∀ j, p j = true → η'.d j = η.d j) : ∀ {x : X}, x.only F p = true → x.d (tabF F) η' = x.d T η := by
  intro x
  induction x with
  | lit d => intro _; rfl
  | var j => intro h; exact hη j h
  | o1 o a ih => intro h; simp only [X.d]; rw [ih h]
  | o2 o a b iha ihb => intro h; simp only [X.only, Bool.and_eq_true] at h; simp only [X.d]; rw [iha h.1, ihb h.2]
  | o3 o a b c iha ihb ihc => intro h; simp only [X.only, Bool.and_eq_true] at h; simp only [X.d]; rw [iha h.1.1, ihb h.1.2, ihc h.2]
  | fn f a ih => intro h; simp only [X.only, Bool.and_eq_true] at h; simp only [X.d]; rw [ih h.2, ← tabF_eq hF h.1]
theorem only_run (hF : F.ok T) (hη : ∀ j, p j = true → η'.d j = η.d j) : ∀ {t : Tree}, t.only F p = true → t.run (tabF F) η' = t.run T η := by
  intro t
  induction t with
  | br c t e iht ihe =>
    intro h
    simp only [Tree.only, Bool.and_eq_true] at h
    simp only [Tree.run]; rw [only_d hF hη h.1.1, iht h.1.2, ihe h.2]
  | need l t ih =>
    intro h
    simp only [Tree.only, Bool.and_eq_true, List.all_eq_true] at h
    simp only [Tree.run]; rw [ih h.2]
    have : ∀ (l : List X), (∀ x ∈ l, x.only F p = true) → (l.all fun x => (x.d (tabF F) η').bool) = l.all fun x => (x.d T η).bool := by
      intro l
      induction l with
      | nil => intro _; rfl
      | cons x l ih => intro hl; simp only [List.all_cons]; rw [only_d hF hη (hl x (.head _)), ih fun y hy => hl y (.tail _ hy)]
    rw [this l h.1]
  | join t c m iht ihm =>
    intro h
    simp only [Tree.only, Bool.and_eq_true] at h
    simp only [Tree.run]; rw [only_d hF hη h.1.2, iht h.1.1, ihm h.2]
  | fin q =>
    intro h
    simp only [Tree.only, List.all_eq_true, Bool.and_eq_true] at h
    simp only [Tree.run]
    induction q with
    | nil => rfl
    | cons r q ih =>
      simp only [List.all_cons]
      rw [only_d hF hη (h r (.head _)).1, only_d hF hη (h r (.head _)).2, ih fun x hx => h x (.tail _ hx)]
  | _ => intro _; rfl
/-- the same, as the kernel reckons it quickly -/
def Tree.runR (T : Tab) (η : Nat → D) (t : Tree) : Bool := Tree.rec (motive := fun _ => Bool) (fun _ _ => false) (fun c _ _ t e => cond (c.dR T η).bool t e) (fun l _ t => cond (l.all fun x => (x.dR T η).bool) t false) (fun _ => false) (fun _ _ _ _ _ => false) (fun _ _ => true) (fun _ c _ t m => cond t (cond (c.dR T η).bool m true) false) true
  (fun q => q.all fun p => match p.1 with
    | 0 => ieqR (p.2.1.dR T η).int (p.2.2.dR T η).int
    | 1 => (p.2.1.dR T η).bool == (p.2.2.dR T η).bool
    | _ => D.bq (p.2.1.dR T η) (p.2.2.dR T η)) t
theorem runR_eq (T : Tab) (η : Env) : ∀ t : Tree, t.runR T η.d = t.run T η := by
  intro t
  induction t with
  | br c t e iht ihe =>
    show cond (c.dR T η.d).bool (t.runR T η.d) (e.runR T η.d) = _
    rw [iht, ihe, dR_eq]; simp only [Tree.run]; cases (c.d T η).bool <;> rfl
  | need l t ih =>
    show cond (l.all fun x => (x.dR T η.d).bool) (t.runR T η.d) false = _
    rw [ih]; simp only [Tree.run, dR_eq]; cases (l.all fun x => (x.d T η).bool) <;> rfl
  | join t c m iht ihm =>
    show cond (t.runR T η.d) (cond (c.dR T η.d).bool (m.runR T η.d) true) false = _
    rw [iht, ihm, dR_eq]; simp only [Tree.run]; cases t.run T η <;> cases (c.d T η).bool <;> rfl
  | fin q =>
    show (q.all fun p => match p.1 with
      | 0 => ieqR (p.2.1.dR T η.d).int (p.2.2.dR T η.d).int
      | 1 => (p.2.1.dR T η.d).bool == (p.2.2.dR T η.d).bool
      | _ => D.bq (p.2.1.dR T η.d) (p.2.2.dR T η.d)) = _
    simp only [Tree.run, dR_eq, ieqR_eq]
    congr 1
    funext p
    split
    · rfl
    · rfl
    · by_cases h : p.2.1.d T η = p.2.2.d T η
      · rw [decide_eq_true h, D.bq_iff]; exact h
      · rw [decide_eq_false h]; exact Bool.eq_false_iff.2 fun h' => h (D.bq_iff.1 h')
  | _ => rfl
/-- A TREE BY ITS VALUES -/
theorem run_sat {B : BT} {t : Tree} (hF : F.ok T) (ho : t.only F p = true) (hη : ∀ j, p j = true → η'.d j = η.d j) (hr : t.runR (tabF F) η'.d = true) (hb : ∀ q ∈ t.bks, B q.1 η q.2) : t.sat T LF B η :=
  treeRun_ok ((only_run hF hη ho).symm.trans ((runR_eq _ _ _).symm.trans hr)) hb
/- expressions under other names -/
def X.put (l : List (Nat × X)) : X → X
  | .lit d => .lit d
  | .var j => match l.find? (·.1 == j) with | some q => q.2 | none => .var j
  | .o1 o a => .o1 o (a.put l)
  | .o2 o a b => .o2 o (a.put l) (b.put l)
  | .o3 o a b c => .o3 o (a.put l) (b.put l) (c.put l)
  | .fn f a => .fn f (a.put l)
def Tree.put (l : List (Nat × X)) : Tree → Tree
  | .br c t e => .br (c.put l) (t.put l) (e.put l)
  | .need q t => .need (q.map (X.put l)) (t.put l)
  | .join t c m => .join (t.put l) (c.put l) (m.put l)
  | .fin q => .fin (q.map fun r => (r.1, r.2.1.put l, r.2.2.put l))
  | t => t
def Env.put (T : Tab) (η : Env) (l : List (Nat × X)) : Env := ⟨fun j => match l.find? (·.1 == j) with | some q => q.2.d T η | none => η.d j, η.v⟩
theorem put_d (l : List (Nat × X)) : ∀ {x : X}, (x.put l).d T η = x.d T (η.put T l) := by
  intro x
  induction x with
  | lit d => rfl
  | var j =>
    simp only [X.put, X.d, Env.put]
    cases l.find? (·.1 == j) <;> rfl
  | o1 o a ih => simp only [X.put, X.d, ih]
  | o2 o a b iha ihb => simp only [X.put, X.d, iha, ihb]
  | o3 o a b c iha ihb ihc => simp only [X.put, X.d, iha, ihb, ihc]
  | fn f a ih => simp only [X.put, X.d, ih]
theorem put_run (l : List (Nat × X)) : ∀ {t : Tree}, (t.put l).run T η = t.run T (η.put T l) := by
  intro t
  induction t with
  | br c t e iht ihe => simp only [Tree.put, Tree.run, put_d, iht, ihe]
  | need q t ih => simp only [Tree.put, Tree.run, ih, List.all_map, Function.comp_def, put_d]
  | join t c m iht ihm => simp only [Tree.put, Tree.run, put_d, iht, ihm]
  | fin q => simp only [Tree.put, Tree.run, List.all_map, Function.comp_def, put_d]
  | _ => rfl
theorem put_sat {B : BT} {t t' : Tree} {l : List (Nat × X)} (hF : F.ok T) (ht : t = t'.put l) (ho : t'.only F p = true) (hη : ∀ j, p j = true → η'.d j = (η.put T l).d j) (hr : t'.runR (tabF F) η'.d = true) (hb : ∀ q ∈ t.bks, B q.1 η q.2) : t.sat T LF B η := by
  refine treeRun_ok ?_ hb
  rw [ht, put_run]
  exact (only_run hF hη ho).symm.trans ((runR_eq _ _ _).symm.trans hr)
end
end
end Go.Sz
