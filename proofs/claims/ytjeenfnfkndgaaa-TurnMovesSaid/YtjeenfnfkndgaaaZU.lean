/- The evaluator: what is to be shown of all ends. -/
import Derived.Test.YtjeenfnfkndgaaaZT
namespace Go.Sz
open Go Go.RowKit
noncomputable section
/-- the variables below n are the same -/
structure Agree (n : Nat) (η η' : Env) : Prop where
  d : ∀ j, j < n → η'.d j = η.d j
  v : η'.v = η.v
theorem Agree.refl (n : Nat) (η : Env) : Agree n η η := ⟨fun _ _ => rfl, rfl⟩
theorem Agree.trans {n m : Nat} {η η' η'' : Env} (h : Agree n η η') (h' : Agree m η' η'') (hm : n ≤ m) : Agree n η η'' :=
  ⟨fun j hj => (h'.d j (by omega)).trans (h.d j hj), h'.v.trans h.v⟩
/-- what is to hold at the end of a loop's round, for each loop -/
abbrev BT := Nat → Env → Sub → Prop
def upd (B : BT) (d : Nat) (b : Env → Sub → Prop) : BT := fun k => if k = d then b else B k
def finOk (T : Tab) (η : Env) (q : Nat × X × X) : Prop := match q.1 with
  | 0 => (q.2.1.d T η).int = (q.2.2.d T η).int
  | 1 => (q.2.1.d T η).bool = (q.2.2.d T η).bool
  | _ => q.2.1.d T η = q.2.2.d T η
/-- what is to be shown of all ends -/
def Tree.sat (T : Tab) (Lf : Ex → St → BT → Env → Prop) : Tree → BT → Env → Prop
  | .leaf e σ, B, η => Lf e σ B η
  | .br c t e, B, η => ((c.d T η).bool = true → t.sat T Lf B η) ∧ ((c.d T η).bool = false → e.sat T Lf B η)
  | .need l t, B, η => (∀ x ∈ l, (x.d T η).bool = true) ∧ t.sat T Lf B η
  | .bad _, _, _ => False
  | .loop d n s t, B, η => ∃ (J : Env → Prop) (μ : Env → Nat), J (η.sub T s) ∧ ∀ η', Agree n η η' → J η' → t.sat T Lf (upd B d fun η'' s' => J (η''.sub T s') ∧ μ (η''.sub T s') < μ η') η'
  | .back d s, B, η => B d η s
  | .join t c m, B, η => t.sat T Lf B η ∧ ((c.d T η).bool = true → m.sat T Lf B η)
  | .met, _, _ => True
  | .fin q, _, η => ∀ p ∈ q, finOk T η p
/-- a state that says less -/
def Ref (T : Tab) (M : Nat) (η : Env) (σ σ' : St) : Prop := σ'.sl.length = σ.sl.length ∧ σ.nv ≤ σ'.nv ∧ (M ≤ σ.bk.length → M ≤ σ'.bk.length) ∧
  ∀ (ρ : Plc) (Z : Nat → Prop) (a : Act) (w : World) (S : List Nat) (Z0 : Nat → Prop) (w0 : World), Lies T η S Z0 w0 σ ρ Z a w → ∃ ρ', Lies T η S Z0 w0 σ' ρ' Z a w ∧ ∀ id, id < M → ρ' id = ρ id
section
variable {T : Tab} {M : Nat} {η η' : Env} {σ τ r : St} {Lf Lg : Ex → St → BT → Env → Prop} {B : BT} {c : X} {f : St → Tree}
theorem Ref.refl (T : Tab) (M : Nat) (η : Env) (σ : St) : Ref T M η σ σ := ⟨rfl, Nat.le_refl _, fun h => h, fun ρ _Z _a _w _S _Z0 _w0 h => ⟨ρ, h, fun _ _ => rfl⟩⟩
theorem Ref.trans (h : Ref T M η σ τ) (h' : Ref T M η τ r) : Ref T M η σ r :=
  ⟨h'.1.trans h.1, Nat.le_trans h.2.1 h'.2.1, fun hm => h'.2.2.1 (h.2.2.1 hm), fun ρ Z a w S Z0 w0 hl => by
    obtain ⟨ρ1, h1, h2⟩ := h.2.2.2 ρ Z a w S Z0 w0 hl
    obtain ⟨ρ2, h3, h4⟩ := h'.2.2.2 ρ1 Z a w S Z0 w0 h1
    exact ⟨ρ2, h3, fun id hid => (h4 id hid).trans (h2 id hid)⟩⟩
theorem Lies.assume {ρ : Plc} {Z : Nat → Prop} {a : Act} {w w0 : World} {S : List Nat} {Z0 : Nat → Prop} {b : Bool} (h : Lies T η S Z0 w0 σ ρ Z a w) (hc : (c.d T η).bool = b) : Lies T η S Z0 w0 (σ.assume c b) ρ Z a w :=
  ⟨h.1, fun q hq => by
    rcases List.mem_append.1 hq with hq | hq
    · exact facts_ok hc q hq
    · exact h.2 q hq⟩
theorem Ref.assume {b : Bool} (hc : (c.d T η).bool = b) : Ref T M η σ (σ.assume c b) :=
  ⟨rfl, Nat.le_refl _, fun h => h, fun ρ _Z _a _w _S _Z0 _w0 h => ⟨ρ, h.assume hc, fun _ _ => rfl⟩⟩
theorem sat_mono : ∀ {t : Tree} {B : BT} {η : Env}, (∀ e σ B η, Lf e σ B η → Lg e σ B η) → t.sat T Lf B η → t.sat T Lg B η := by
  intro t
  induction t with
  | leaf e σ => exact fun h h1 => h e σ _ _ h1
  | br c t e iht ihe => exact fun h h1 => ⟨fun hc => iht h (h1.1 hc), fun hc => ihe h (h1.2 hc)⟩
  | need l t ih => exact fun h h1 => ⟨h1.1, ih h h1.2⟩
  | loop d n s t ih => exact fun h ⟨J, μ, h1, h2⟩ => ⟨J, μ, h1, fun η' ha hj => ih h (h2 η' ha hj)⟩
  | join t c m iht ihm => exact fun h h1 => ⟨iht h h1.1, fun hc => ihm h (h1.2 hc)⟩
  | _ => exact fun _ h => h
theorem graft_ok {f : Ex → St → Tree} : ∀ {t : Tree} {B : BT} {η : Env}, (t.graft f).sat T Lf B η → t.sat T (fun e σ B η => (f e σ).sat T Lf B η) B η := by
  intro t
  induction t with
  | br c t e iht ihe => exact fun h1 => ⟨fun hc => iht (h1.1 hc), fun hc => ihe (h1.2 hc)⟩
  | need l t ih => exact fun h1 => ⟨h1.1, ih h1.2⟩
  | loop d n s t ih => exact fun ⟨J, μ, h1, h2⟩ => ⟨J, μ, h1, fun η' ha hj => ih (h2 η' ha hj)⟩
  | join t c m iht ihm => exact fun h1 => ⟨iht h1.1, fun hc => ihm (h1.2 hc)⟩
  | _ => exact fun h => h
theorem meet_ref {n : Nat} (h : meetSt M (.ite c) n σ τ = some r) : ((c.d T η).bool = true → Ref T M η σ r) ∧ ((c.d T η).bool = false → Ref T M η τ r) := by
  obtain ⟨h1, h2, h3, h4, h5, h6⟩ := meetSt_ok h
  refine ⟨fun hc => ⟨h1, h3, fun _ => h5, fun ρ Z a w S Z0 w0 hl => h6 T η ρ Z a w S Z0 w0 (by rw [hc]; exact hl)⟩, fun hc => ⟨h2, h4, fun _ => h5, fun ρ Z a w S Z0 w0 hl => h6 T η ρ Z a w S Z0 w0 (by rw [hc]; exact hl)⟩⟩
/-- what a merged leaf is -/
def Mer (T : Tab) (M : Nat) (r : Option (X × St)) (B : BT) (η : Env) (e : Ex) (σ : St) (B' : BT) (η' : Env) : Prop := e = .normal → B' = B ∧ η' = η ∧ ∃ x σm, r = some (x, σm) ∧ (x.d T η).bool = true ∧ Ref T M η σ σm
theorem merge_ok : ∀ {t : Tree} {r : Option (X × St)} {B : BT} {η : Env}, t.merge M = some r → t.sat T Lf B η → t.sat T (fun e σ B' η' => Lf e σ B' η' ∧ Mer T M r B η e σ B' η') B η := by
  intro t
  induction t with
  | leaf e σ =>
    intro r B η h h1
    refine ⟨h1, fun he => ⟨rfl, rfl, ?_⟩⟩
    subst he
    simp only [Tree.merge, Option.some.injEq] at h
    exact ⟨_, _, h.symm, rfl, Ref.refl _ _ _ _⟩
  | br c t e iht ihe =>
    intro r B η h h1
    simp only [Tree.merge] at h
    split at h
    · rename_i h2 h3
      simp at h; subst h
      exact ⟨fun hc => iht h2 (h1.1 hc), fun hc => ihe h3 (h1.2 hc)⟩
    · rename_i x σ1 h2 h3
      simp at h; subst h
      refine ⟨fun hc => sat_mono (fun e' σ' B' η' hm => ⟨hm.1, fun he => ?_⟩) (iht h2 (h1.1 hc)), fun hc => sat_mono (fun e' σ' B' η' hm => ⟨hm.1, fun he => ?_⟩) (ihe h3 (h1.2 hc))⟩
      · obtain ⟨g1, g2, y, σm, g3, g4, g5⟩ := hm.2 he
        simp at g3; obtain ⟨rfl, rfl⟩ := g3
        exact ⟨g1, g2, _, _, rfl, by rw [mk2_d]; show ((c.d T η).bool && (X.d T η _).bool) = true; rw [hc, g4]; rfl, g5⟩
      · obtain ⟨g1, g2, y, σm, g3, g4, g5⟩ := hm.2 he
        cases g3
    · rename_i x σ1 h2 h3
      simp at h; subst h
      refine ⟨fun hc => sat_mono (fun e' σ' B' η' hm => ⟨hm.1, fun he => ?_⟩) (iht h2 (h1.1 hc)), fun hc => sat_mono (fun e' σ' B' η' hm => ⟨hm.1, fun he => ?_⟩) (ihe h3 (h1.2 hc))⟩
      · obtain ⟨g1, g2, y, σm, g3, g4, g5⟩ := hm.2 he
        cases g3
      · obtain ⟨g1, g2, y, σm, g3, g4, g5⟩ := hm.2 he
        simp at g3; obtain ⟨rfl, rfl⟩ := g3
        exact ⟨g1, g2, _, _, rfl, by rw [mk2_d, mk1_d]; show (!(c.d T η).bool && (X.d T η _).bool) = true; rw [hc, g4]; rfl, g5⟩
    · rename_i x σ1 y τ1 h2 h3
      simp only [Option.map_eq_some_iff] at h
      obtain ⟨q, h4, rfl⟩ := h
      refine ⟨fun hc => sat_mono (fun e' σ' B' η' hm => ⟨hm.1, fun he => ?_⟩) (iht h2 (h1.1 hc)), fun hc => sat_mono (fun e' σ' B' η' hm => ⟨hm.1, fun he => ?_⟩) (ihe h3 (h1.2 hc))⟩
      · obtain ⟨g1, g2, z, σm, g3, g4, g5⟩ := hm.2 he
        simp at g3; obtain ⟨rfl, rfl⟩ := g3
        exact ⟨g1, g2, _, _, rfl, by rw [phiB_d, hc]; exact g4, g5.trans ((meet_ref h4).1 hc)⟩
      · obtain ⟨g1, g2, z, σm, g3, g4, g5⟩ := hm.2 he
        simp at g3; obtain ⟨rfl, rfl⟩ := g3
        exact ⟨g1, g2, _, _, rfl, by rw [phiB_d, hc]; exact g4, g5.trans ((meet_ref h4).2 hc)⟩
    · cases h
  | need l t ih => intro r B η h h1; exact ⟨h1.1, ih h h1.2⟩
  | loop d n s t ih => intro r B η h; simp [Tree.merge] at h
  | join t c m iht ihm =>
    intro r B η h h1
    simp only [Tree.merge] at h
    split at h
    · rename_i x σ1 h2 h3
      simp at h; subst h
      refine ⟨sat_mono (fun e' σ' B' η' hm => ⟨hm.1, fun he => ?_⟩) (iht h2 h1.1), fun hc => sat_mono (fun e' σ' B' η' hm => ⟨hm.1, fun he => ?_⟩) (ihm h3 (h1.2 hc))⟩
      · obtain ⟨g1, g2, z, σm, g3, g4, g5⟩ := hm.2 he
        cases g3
      · obtain ⟨g1, g2, z, σm, g3, g4, g5⟩ := hm.2 he
        simp at g3; obtain ⟨rfl, rfl⟩ := g3
        exact ⟨g1, g2, _, _, rfl, by rw [mk2_d]; show ((c.d T η).bool && (X.d T η _).bool) = true; rw [hc, g4]; rfl, g5⟩
    · rename_i h2 h3
      simp at h; subst h
      exact ⟨iht h2 h1.1, fun hc => ihm h3 (h1.2 hc)⟩
    · cases h
  | _ => exact fun _ h => h
/-- what a leaf is with what comes behind it -/
def Then (T : Tab) (M : Nat) (f : St → Tree) (Lf : Ex → St → BT → Env → Prop) (e : Ex) (σ : St) (B : BT) (η : Env) : Prop := if e = .normal then ∃ σ', Ref T M η σ σ' ∧ (f σ').sat T Lf B η else Lf e σ B η
theorem bind_last {t : Tree} (h : (if t.ends ≤ 1 then t.graft (atEnd f) else match t.merge M with
    | some (some (c, σ)) => .join (t.graft (atEnd fun _ => .met)) c (f (σ.assume c true))
    | _ => t.graft (atEnd f)).sat T Lf B η) : t.sat T (Then T M f Lf) B η := by
  have plain : (t.graft (atEnd f)).sat T Lf B η → t.sat T (Then T M f Lf) B η := fun h => sat_mono (fun e σ B η h1 => by
    unfold atEnd at h1
    unfold Then
    split at h1
    · rename_i he; rw [if_pos he]; exact ⟨σ, Ref.refl _ _ _ _, h1⟩
    · rename_i he; rw [if_neg he]; exact h1) (graft_ok h)
  split at h
  · exact plain h
  · split at h
    · rename_i c σm hm
      obtain ⟨h1, h2⟩ := h
      refine sat_mono (fun e σ B' η' h3 => ?_) (merge_ok hm (graft_ok h1))
      obtain ⟨h3, h4⟩ := h3
      unfold atEnd at h3
      unfold Then
      split at h3
      · rename_i he
        rw [if_pos he]
        obtain ⟨g1, g2, x, σ', g3, g4, g5⟩ := h4 he
        simp at g3; obtain ⟨rfl, rfl⟩ := g3
        subst g1 g2
        exact ⟨_, g5.trans (Ref.assume g4), h2 g4⟩
      · rename_i he; rw [if_neg he]; exact h3
    · exact plain h
theorem bind_ok : ∀ {t : Tree} {B : BT} {η : Env}, (t.bind M f).sat T Lf B η → t.sat T (Then T M f Lf) B η := by
  intro t
  induction t with
  | need l t ih => exact fun h => ⟨h.1, ih h.2⟩
  | loop d n s t ih => exact fun ⟨J, μ, h1, h2⟩ => ⟨J, μ, h1, fun η' ha hj => ih (h2 η' ha hj)⟩
  | _ => exact fun h => bind_last h
/-- an expression of old variables -/
theorem low_d {n : Nat} (h : Agree n η η') : ∀ {x : X}, x.low n = true → x.d T η' = x.d T η := by
  intro x
  induction x with
  | lit d => intro _; rfl
  | var j => intro hx; simp [X.low] at hx; exact h.d j hx
  | o1 o a ih => intro hx; simp only [X.d, ih hx]
  | fn f a ih => intro hx; simp only [X.d, ih hx]
  | o2 o a b iha ihb => intro hx; simp only [X.low, Bool.and_eq_true] at hx; simp only [X.d, iha hx.1, ihb hx.2]
  | o3 o a b c iha ihb ihc => intro hx; simp only [X.low, Bool.and_eq_true] at hx; simp only [X.d, iha hx.1.1, ihb hx.1.2, ihc hx.2]
end
end
end Go.Sz
