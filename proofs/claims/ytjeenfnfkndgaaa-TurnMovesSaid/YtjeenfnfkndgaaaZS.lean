/- The evaluator: a state that says less; the head of a loop. -/
import Derived.Test.YtjeenfnfkndgaaaZR
namespace Go.Sz
open Go Go.RowKit
noncomputable section
/-- the blocks of a state that says less: those of another, or nil -/
def plc (ρ : Plc) (μ : Nat → Option Nat) : Plc := fun id => match μ id with | some i => ρ i | none => ⟨0, 0, 0, 0, true⟩
theorem nodupB_mem {l : List Nat} {y : Nat} (h : nodupB (y :: l) = true) : y ∉ l ∧ nodupB l = true := by
  simp only [nodupB, Bool.and_eq_true, Bool.not_eq_true', List.contains_eq_mem, decide_eq_false_iff_not] at h
  exact h
theorem fm_inj {α : Type} {g : α → Option Nat} : ∀ {l : List α}, nodupB (l.filterMap g) = true → ∀ {i j : Nat} {a b : α} {k : Nat}, l[i]? = some a → l[j]? = some b → g a = some k → g b = some k → i = j
  | [], _, i, j, a, b, k, hi, _, _, _ => by simp at hi
  | x :: l, h, i, j, a, b, k, hi, hj, ha, hb => by
    have hl : nodupB (l.filterMap g) = true := by
      rw [List.filterMap_cons] at h
      split at h
      · exact h
      · exact (nodupB_mem h).2
    have hx : ∀ {j : Nat} {b : α}, l[j]? = some b → g b = some k → g x ≠ some k := by
      intro j b hj hb hgx
      rw [List.filterMap_cons, hgx] at h
      exact (nodupB_mem h).1 (List.mem_filterMap.2 ⟨b, List.mem_of_getElem? hj, hb⟩)
    cases i with
    | zero =>
      simp at hi; subst hi
      cases j with
      | zero => rfl
      | succ j => exact absurd ha (hx (j := j) (by simpa using hj) hb)
    | succ i =>
      cases j with
      | zero => simp at hj; subst hj; exact absurd hb (hx (j := i) (by simpa using hi) ha)
      | succ j => exact congrArg (· + 1) (fm_inj hl (i := i) (j := j) (by simpa using hi) (by simpa using hj) ha hb)
section
variable {P : Program} {T : Tab} {η η' : Env} {ρ ρ1 : Plc} {S : List Nat} {w0 : World} {Z0 Z : Nat → Prop} {n m M : Nat} {a : Act} {w : World} {F : Fs} {σ τ : St} {μ : Nat → Option Nat} {fs fs' : FS} {s : Sub}
theorem plc_at {id g : Nat} (h : (plc ρ μ id).at g) : ∃ i, μ id = some i ∧ (ρ i).at g := by
  unfold plc at h
  split at h
  · rename_i i hi; exact ⟨i, hi, h⟩
  · cases h.1
/-- a state that says less -/
theorem Rel.weaken (h : Rel T η S Z0 w0 m fs ρ Z a w) {ws : Ws} (hws : ∀ q ∈ ws, ∃ b, fs.bk q.1 = some b ∧ b.mut = true)
    (hsl : ∀ t v, fs'.sl t = some v → v.V T η' (plc ρ μ) w (frzZ ρ Z ws) (a.tmps.getD t undef)) (hbk : ∀ id b, fs'.bk id = some b → b.V T η' (plc ρ μ) w (frzZ ρ Z ws) (plc ρ μ id))
    (hmut : ∀ id b, fs'.bk id = some b → b.mut = true → ∀ i, μ id = some i → (∀ q ∈ ws, q.1 ≠ i) ∧ ∃ c, fs.bk i = some c ∧ c.mut = true)
    (hinj : ∀ i j b c k, fs'.bk i = some b → fs'.bk j = some c → b.mut = true → c.mut = true → μ i = some k → μ j = some k → i = j)
    (isl : ∀ t v, fs'.sl t = some v → v.ids fs'.p = true) (ibk : ∀ id b, fs'.bk id = some b → b.ids fs'.p = true ∧ fs'.p id = true) :
    Rel T η' S Z0 w0 m fs' (plc ρ μ) (frzZ ρ Z ws) a w := by
  have hw : ∀ q ∈ ws, ∀ g, (ρ q.1).at g → (g < w.heap.size ∧ ¬Z g) ∧ (w0.heap.size ≤ g ∨ g ∈ S) := fun q hq g hg => by
    obtain ⟨b, h1, h2⟩ := hws q hq
    exact ⟨h.mem.own _ _ h1 h2 g hg, h.own _ _ h1 h2 g hg⟩
  refine ⟨h.len, h.nod, hsl, ⟨hbk, fun id b hb hm g hg => ?_, fun i j b c g hi hj hbm hcm hgi hgj => ?_, fun g hg => ?_⟩, h.keep, fun id b hb hm g hg => ?_, fun g hg => .inl (h.z0 g hg), fun g hg => ?_, isl, ibk⟩
  · obtain ⟨i, h1, h2⟩ := plc_at hg
    obtain ⟨h3, c, h4, h5⟩ := hmut id b hb hm i h1
    obtain ⟨h6, h7⟩ := h.mem.own _ _ h4 h5 g h2
    refine ⟨h6, ?_⟩
    rintro (hz | ⟨q, hq, hqg⟩)
    · exact h7 hz
    · obtain ⟨d, h8, h9⟩ := hws q hq
      exact h3 q hq (h.mem.inj _ _ _ _ g h8 h4 h9 h5 hqg h2)
  · obtain ⟨i', h1, h2⟩ := plc_at hgi
    obtain ⟨j', h3, h4⟩ := plc_at hgj
    obtain ⟨-, d, h5, h6⟩ := hmut i b hi hbm i' h1
    obtain ⟨-, e, h7, h8⟩ := hmut j c hj hcm j' h3
    have := h.mem.inj _ _ _ _ g h5 h7 h6 h8 h2 h4
    subst this
    exact hinj i j b c _ hi hj hbm hcm h1 h3
  · rcases hg with hg | ⟨q, hq, hg⟩
    · exact h.mem.zlt g hg
    · exact (hw q hq g hg).1.1
  · obtain ⟨i, h1, h2⟩ := plc_at hg
    obtain ⟨-, c, h4, h5⟩ := hmut id b hb hm i h1
    exact h.own _ _ h4 h5 g h2
  · rcases hg with hg | ⟨q, hq, hg⟩
    · exact h.zn g hg
    · exact .inr (hw q hq g hg).2
theorem getD_some {l : List (Option SV)} {t : Nat} {v : SV} (h : l.getD t none = some v) : l[t]? = some (some v) := by
  rw [List.getD_eq_getElem?_getD] at h
  cases hl : l[t]? with
  | none => rw [hl] at h; cases h
  | some x => rw [hl] at h; simp at h; subst h; rfl
theorem getD_someB {l : List (Option Blk)} {t : Nat} {v : Blk} (h : l.getD t none = some v) : l[t]? = some (some v) := by
  rw [List.getD_eq_getElem?_getD] at h
  cases hl : l[t]? with
  | none => rw [hl] at h; cases h
  | some x => rw [hl] at h; simp at h; subst h; rfl
theorem St.ok_sl (h : σ.ok = true) : ∀ t v, σ.fs.sl t = some v → v.ids σ.fs.p = true := fun t v hv => by
  unfold St.ok at h
  simp only [Bool.and_eq_true, List.all_eq_true] at h
  exact h.1 _ (List.mem_of_getElem? (getD_some hv))
theorem St.ok_bk (h : σ.ok = true) : ∀ id b, σ.fs.bk id = some b → b.ids σ.fs.p = true ∧ σ.fs.p id = true := fun t v hv => by
  unfold St.ok at h
  simp only [Bool.and_eq_true, List.all_eq_true] at h
  have := getD_someB hv
  exact ⟨h.2 _ (List.mem_of_getElem? this), by simpa [St.fs] using (List.getElem?_eq_some_iff.1 this).1⟩
theorem Lies.blt (h : Lies T η S Z0 w0 σ ρ Z a w) {id : Nat} {b : Blk} (hb : σ.b id = some b) : id < σ.bk.length := by
  have := (h.1.ibk id b hb).2
  simpa [St.fs] using this
/-- a nil as a row of one's own -/
theorem nil_row {t : TypeId} {e : CK} (he : 0 < e.size) : (Blk.row t e (.lit .nil)).V T η ρ w Z ⟨0, 0, 0, 0, true⟩ :=
  ⟨rfl, he, [], ⟨by simp [X.d, D.len], .inl ⟨rfl, rfl⟩⟩, fun m hm => by simp [X.d, D.len] at hm⟩
theorem coer_step (h : Lies T η S Z0 w0 σ ρ Z a w) {t : Nat} {ty : TypeId} {e : CK} (he : 0 < e.size) (hs : σ.sl.getD t none = some (.v (.one .nils))) :
    Lies T η S Z0 w0 { σ with sl := σ.sl.set t (some (.v (.one (.own σ.bk.length)))), bk := σ.bk ++ [some (.row ty e (.lit .nil))] } (plc ρ fun id => if id < σ.bk.length then some id else none) Z a w := by
  have hρ : ∀ id, σ.fs.p id = true → plc ρ (fun id => if id < σ.bk.length then some id else none) id = ρ id := fun id hi => by
    have : id < σ.bk.length := by simpa [St.fs] using hi
    simp [plc, this]
  have hlast : plc ρ (fun id => if id < σ.bk.length then some id else none) σ.bk.length = ⟨0, 0, 0, 0, true⟩ := by simp [plc]
  have ht : t < σ.sl.length := (List.getElem?_eq_some_iff.1 (getD_some hs)).1
  have hb : ∀ id b, (σ.bk ++ [some (Blk.row ty e (.lit .nil))]).getD id none = some b → (id = σ.bk.length ∧ b = .row ty e (.lit .nil)) ∨ (id < σ.bk.length ∧ σ.b id = some b) := fun id b hb => by
    have hb := getD_someB hb
    rw [List.getElem?_append] at hb
    split at hb
    · rename_i h1; exact .inr ⟨h1, by simp [St.b, hb]⟩
    · rename_i h1
      cases h2 : id - σ.bk.length with
      | zero => rw [h2] at hb; simp at hb; exact .inl ⟨by omega, hb.symm⟩
      | succ k => rw [h2] at hb; simp at hb
  have hsl : ∀ t' v, (σ.sl.set t (some (.v (.one (.own σ.bk.length))))).getD t' none = some v → (t' = t ∧ v = .v (.one (.own σ.bk.length))) ∨ σ.sl.getD t' none = some v := fun t' v hv => by
    rw [List.getD_eq_getElem?_getD, List.getElem?_set] at hv
    by_cases h1 : t = t'
    · subst h1; simp [ht] at hv; exact .inl ⟨rfl, hv.symm⟩
    · rw [if_neg h1] at hv; exact .inr (by rw [List.getD_eq_getElem?_getD]; exact hv)
  refine ⟨?_, h.2⟩
  have := h.1.weaken (η' := η) (μ := fun id => if id < σ.bk.length then some id else none) (ws := []) (fs' := (St.fs { σ with sl := σ.sl.set t (some (.v (.one (.own σ.bk.length)))), bk := σ.bk ++ [some (.row ty e (.lit .nil))] })) nofun ?_ ?_ ?_ ?_ ?_ ?_
  · rw [frz_nil] at this
    simpa using this
  · rw [frz_nil]
    intro t' v hv
    rcases hsl t' v hv with ⟨rfl, rfl⟩ | h1
    · show _ = _
      rw [hlast]
      exact h.1.sl _ _ hs
    · exact (h.1.sl _ _ h1).mono (h.1.isl _ _ h1) hρ (fun _ _ => rfl) (fun _ h => h)
  · rw [frz_nil]
    intro id b hb'
    rcases hb id b hb' with ⟨rfl, rfl⟩ | ⟨h1, h2⟩
    · rw [hlast]; exact nil_row he
    · rw [hρ id (h.1.ibk _ _ h2).2]
      exact (h.1.mem.bk id b h2).mono (h.1.ibk _ _ h2).1 hρ (fun _ _ => rfl) (fun _ h => h) (Nat.le_refl _) (fun _ _ => rfl)
  · intro id b hb' hm i hi
    refine ⟨nofun, ?_⟩
    rcases hb id b hb' with ⟨rfl, rfl⟩ | ⟨h1, h2⟩
    · simp at hi
    · simp [h1] at hi; subst hi; exact ⟨b, h2, hm⟩
  · intro i j b c k _ _ _ _ hi hj
    split at hi <;> split at hj <;> simp_all
  · intro t' v hv
    rcases hsl t' v hv with ⟨rfl, rfl⟩ | h1
    · simp [SV.ids, S1.ids, S1.cells, Sc.ids, St.fs]
    · exact SV.ids_mono (fun id hi => by simp [St.fs] at hi ⊢; omega) (h.1.isl _ _ h1)
  · intro id b hb'
    rcases hb id b hb' with ⟨rfl, rfl⟩ | ⟨h1, h2⟩
    · exact ⟨rfl, by simp [St.fs]⟩
    · exact ⟨Blk.ids_mono (fun id hi => by simp [St.fs] at hi ⊢; omega) (h.1.ibk _ _ h2).1, by simp [St.fs]; omega⟩
theorem coer_ok {hd : St} : ∀ {l : List (Option SV)} {t : Nat} {σ : St} {ρ : Plc}, Lies T η S Z0 w0 σ ρ Z a w → ∃ ρ', Lies T η S Z0 w0 (coerS hd t l σ) ρ' Z a w ∧ (∀ id, id < σ.bk.length → ρ' id = ρ id) ∧ σ.bk.length ≤ (coerS hd t l σ).bk.length ∧ (coerS hd t l σ).sl.length = σ.sl.length
  | [], t, σ, ρ, h => ⟨ρ, h, fun _ _ => rfl, Nat.le_refl _, rfl⟩
  | p :: l, t, σ, ρ, h => by
    simp only [coerS]
    split
    · rename_i i hs
      split
      · rename_i ty e x hx
        split
        · exact coer_ok h
        · rename_i hne
          obtain ⟨ρ', h1, h2, h3, h4⟩ := coer_ok (l := l) (t := t + 1) (hd := hd) (coer_step (ty := ty) h (Nat.pos_of_ne_zero hne) hs)
          simp only [List.length_append, List.length_singleton, List.length_set] at h2 h3 h4
          refine ⟨ρ', h1, fun id hid => (h2 id (by omega)).trans ?_, by omega, h4⟩
          simp [plc, hid]
      · exact coer_ok h
    · exact coer_ok h
theorem frz_step (h : Lies T η S Z0 w0 σ ρ Z a w) {j : Nat} {t : TypeId} {e : CK} {x : X} (hj : σ.b j = some (.row t e x)) : ∃ Z', Lies T η S Z0 w0 { σ with bk := σ.bk.set j (some (.froz e x)) } ρ Z' a w := by
  have hlt : j < σ.bk.length := (List.getElem?_eq_some_iff.1 (getD_someB hj)).1
  have hb : ∀ id b, (σ.bk.set j (some (Blk.froz e x))).getD id none = some b → (id = j ∧ b = .froz e x) ∨ (id ≠ j ∧ σ.b id = some b) := fun id b hb => by
    rw [List.getD_eq_getElem?_getD, List.getElem?_set] at hb
    by_cases h1 : j = id
    · subst h1; simp [hlt] at hb; exact .inl ⟨rfl, hb.symm⟩
    · rw [if_neg h1] at hb; exact .inr ⟨fun e => h1 e.symm, by rw [St.b, List.getD_eq_getElem?_getD]; exact hb⟩
  have hp : ({ σ with bk := σ.bk.set j (some (.froz e x)) } : St).fs.p = σ.fs.p := by simp [St.fs]
  refine ⟨frzZ ρ Z [(j, some (.froz e x))], ?_, h.2⟩
  exact h.1.weaken (η' := η) (μ := some) (ws := [(j, some (.froz e x))]) (fs' := ({ σ with bk := σ.bk.set j (some (.froz e x)) } : St).fs)
    (fun q hq => by simp only [List.mem_singleton] at hq; subst hq; exact ⟨_, hj, rfl⟩)
    (fun t v hv => (h.1.sl t v hv).mono (h.1.isl t v hv) (fun _ _ => rfl) (fun _ _ => rfl) (fun _ h => .inl h))
    (fun id b hb' => by
      rcases hb id b hb' with ⟨rfl, rfl⟩ | ⟨h1, h2⟩
      · exact sliceX_R (c := .own id) h.1.mem.bk (by simp only [sliceX]; rw [show σ.fs.bk id = _ from hj]) rfl (fun _ h => .inl h) (frz_kept ρ Z _)
      · exact (h.1.mem.bk id b h2).mono (h.1.ibk id b h2).1 (fun _ _ => rfl) (fun _ _ => rfl) (fun _ h => .inl h) (Nat.le_refl _) (fun _ _ => rfl))
    (fun id b hb' hm i hi => by
      simp only [Option.some.injEq] at hi; subst hi
      rcases hb id b hb' with ⟨rfl, rfl⟩ | ⟨h1, h2⟩
      · cases hm
      · exact ⟨fun q hq => by simp only [List.mem_singleton] at hq; subst hq; exact fun e => h1 e.symm, b, h2, hm⟩)
    (fun i k b c m _ _ _ _ h1 h2 => by simp only [Option.some.injEq] at h1 h2; omega)
    (fun t v hv => by rw [hp]; exact h.1.isl t v hv)
    (fun id b hb' => by
      rw [hp]
      rcases hb id b hb' with ⟨rfl, rfl⟩ | ⟨h1, h2⟩
      · exact ⟨rfl, (h.1.ibk _ _ hj).2⟩
      · exact h.1.ibk _ _ h2)
theorem frzS_ok {hd : St} : ∀ {l : List (Option SV)} {t : Nat} {σ : St} {Z : Nat → Prop}, Lies T η S Z0 w0 σ ρ Z a w → ∃ Z', Lies T η S Z0 w0 (frzS hd t l σ) ρ Z' a w ∧ (frzS hd t l σ).bk.length = σ.bk.length ∧ (frzS hd t l σ).sl.length = σ.sl.length
  | [], t, σ, Z, h => ⟨Z, h, rfl, rfl⟩
  | p :: l, t, σ, Z, h => by
    simp only [frzS]
    split
    · split
      · rename_i hb _ hx
        obtain ⟨Z1, h1⟩ := frz_step h hx
        obtain ⟨Z2, h2, h3, h4⟩ := frzS_ok (l := l) (t := t + 1) (hd := hd) h1
        exact ⟨Z2, h2, by simpa using h3, h4⟩
      · exact frzS_ok h
    · exact frzS_ok h
theorem instS_get {bk : BK} : ∀ {l r : List (Option SV)} {ws : Ws}, instS F bk s l r = some ws → Rows bk ws ∧ l.length = r.length ∧ ∀ {t : Nat} {p : SV}, l[t]? = some (some p) → ∃ v w1, r[t]? = some (some v) ∧ instV F bk s p v = some w1 ∧ ∀ {ρ : Plc} {Z' : Nat → Prop}, Kept ρ Z' ws → Kept ρ Z' w1
  | [], [], ws, h => by simp [instS] at h; subst h; exact ⟨nofun, rfl, fun h => by simp at h⟩
  | none :: l, x :: r, ws, h => by
    simp only [instS] at h
    obtain ⟨h1, h2, h3⟩ := instS_get h
    refine ⟨h1, by simp [h2], fun {t p} ht => ?_⟩
    cases t with
    | zero => simp at ht
    | succ t => simpa using h3 (by simpa using ht)
  | some p :: l, some v :: r, ws, h => by
    simp only [instS] at h
    split at h
    · rename_i w1 w2 h1 h2
      simp at h; subst h
      obtain ⟨h3, h4, h5⟩ := instS_get h2
      refine ⟨(instV_rows h1).join h3, by simp [h4], fun {t p'} ht => ?_⟩
      cases t with
      | zero => simp at ht; subst ht; exact ⟨v, w1, rfl, h1, fun hk => hk.left⟩
      | succ t =>
        obtain ⟨v', w3, g1, g2, g3⟩ := h5 (t := t) (by simpa using ht)
        exact ⟨v', w3, by simpa using g1, g2, fun hk => g3 hk.right⟩
    · cases h
  | [], _ :: _, ws, h => by simp [instS] at h
  | some _ :: _, [], ws, h => by simp [instS] at h
  | some _ :: _, none :: _, ws, h => by simp [instS] at h
  | none :: _, [], ws, h => by simp [instS] at h
theorem instHs_get {bk : BK} : ∀ {l : List (Option Blk)} {k : Nat} {ws : Ws}, instHs F bk s k l = some ws → Rows bk ws ∧ ∀ {i : Nat} {b : Blk}, l[i]? = some (some b) → ∃ w1, instB F bk s b (bk (lookN s.id (k + i))) = some w1 ∧ ∀ {ρ : Plc} {Z' : Nat → Prop}, Kept ρ Z' ws → Kept ρ Z' w1
  | [], k, ws, h => by simp [instHs] at h; subst h; exact ⟨nofun, fun h => by simp at h⟩
  | none :: l, k, ws, h => by
    simp only [instHs] at h
    obtain ⟨h1, h3⟩ := instHs_get h
    refine ⟨h1, fun {t p} ht => ?_⟩
    cases t with
    | zero => simp at ht
    | succ t =>
      have := h3 (i := t) (by simpa using ht)
      rw [show k + 1 + t = k + (t + 1) by omega] at this
      exact this
  | some b :: l, k, ws, h => by
    simp only [instHs] at h
    split at h
    · rename_i w1 w2 h1 h2
      simp at h; subst h
      obtain ⟨h3, h5⟩ := instHs_get h2
      refine ⟨(instB_rows h1).join h3, fun {t p'} ht => ?_⟩
      cases t with
      | zero => simp at ht; subst ht; exact ⟨w1, h1, fun hk => hk.left⟩
      | succ t =>
        obtain ⟨w3, g2, g3⟩ := h5 (i := t) (by simpa using ht)
        rw [show k + 1 + t = k + (t + 1) by omega] at g2
        exact ⟨w3, g2, fun hk => g3 hk.right⟩
    · cases h
/-- A STATE AT A LOOP'S HEAD -/
theorem enter_ok {hd : St} (hF : F.ok T) (h : enter F M n hd σ = some s) (hl : Lies T η S Z0 w0 σ ρ Z a w) (hpc : hd.pc.ok T (η.sub T s)) :
    s.v = [] ∧ s.n = n ∧ 0 < n ∧ M ≤ hd.bk.length ∧ M ≤ σ.bk.length ∧ hd.sl.length = σ.sl.length ∧ ∃ ρ' Z', Lies T (η.sub T s) S Z0 w0 hd ρ' Z' a w ∧ ∀ id, id < M → ρ' id = ρ id := by
  unfold enter at h
  obtain ⟨ρ1, h1, h2, h3, h4⟩ := coer_ok (hd := hd) (l := hd.sl) (t := 0) hl
  obtain ⟨Z1, f1, f2, f3⟩ := frzS_ok (hd := hd) (l := hd.sl) (t := 0) h1
  replace h1 := f1
  replace h3 : σ.bk.length ≤ (frzS hd 0 hd.sl (coerS hd 0 hd.sl σ)).bk.length := by rw [f2]; exact h3
  replace h4 : (frzS hd 0 hd.sl (coerS hd 0 hd.sl σ)).sl.length = σ.sl.length := f3.trans h4
  clear f1 f2 f3
  generalize frzS hd 0 hd.sl (coerS hd 0 hd.sl σ) = τ at h h1 h3 h4
  dsimp only at h
  have hv0 : (colHs τ.b (colS τ.b ⟨n, [], [], []⟩ hd.sl τ.sl) 0 hd.bk).noV.v = [] := rfl
  generalize (colHs τ.b (colS τ.b ⟨n, [], [], []⟩ hd.sl τ.sl) 0 hd.bk).noV = s' at h hv0
  split at h
  · rename_i ws vs hS hH
    split at h
    · rename_i hc
      simp at h; subst h
      obtain ⟨c1, c2, c3, c4, c5, c6, c7, c8⟩ := hc
      obtain ⟨i1, i2, i3⟩ := instS_get hS
      obtain ⟨j1, j3⟩ := instHs_get hH
      have hr : Rows τ.b (joinW ws vs) := i1.join j1
      have hρ : ∀ id, (fun i => hd.fs.p i) id = true → plc ρ1 (fun id => some (lookN s'.id id)) id = ρ1 (lookN s'.id id) := fun _ _ => rfl
      have hk := frz_kept ρ1 Z1 (joinW ws vs)
      have hsrc : ∀ id b, hd.b id = some b → ∃ c, τ.b (lookN s'.id id) = some c ∧ c.mut = b.mut := fun id b hb => by
        obtain ⟨w1, g1, g2⟩ := j3 (getD_someB hb)
        rw [Nat.zero_add] at g1
        exact (instB_V (r := ρ1 (lookN s'.id id)) hF hρ h1.1.mem.bk (fun _ hg => Or.inl hg) g1 (St.ok_bk c8 id b hb).1 (fun c hc => h1.1.mem.bk _ c hc) (g2 hk.right)).2
      have hmem : ∀ id b, hd.b id = some b → b.mut = true → lookN s'.id id ∈ (List.range hd.bk.length).filterMap fun i => match hd.b i with | some b => if b.mut then some (lookN s'.id i) else none | none => none := fun id b hb hm => by
        refine List.mem_filterMap.2 ⟨id, List.mem_range.2 (List.getElem?_eq_some_iff.1 (getD_someB hb)).1, ?_⟩
        simp [hb, hm]
      refine ⟨hv0, c1, c2, c3, c4, i2.trans h4, plc ρ1 fun id => some (lookN s'.id id), frzZ ρ1 Z1 (joinW ws vs), ⟨?_, hpc⟩, fun id hid => ?_⟩
      · rw [i2]
        exact h1.1.weaken (μ := fun id => some (lookN s'.id id)) (ws := joinW ws vs) (fun q hq => hr.alive q hq)
          (fun t v hv => by
            obtain ⟨u, w1, g1, g2, g3⟩ := i3 (getD_some hv)
            exact instV_V hF hρ h1.1.mem.bk (fun _ hg => Or.inl hg) g2 (St.ok_sl c8 t v hv) (h1.1.sl t u (by simp [St.fs, List.getD_eq_getElem?_getD, g1])) (g3 hk.left))
          (fun id b hb => by
            obtain ⟨w1, g1, g2⟩ := j3 (getD_someB hb)
            rw [Nat.zero_add] at g1
            exact (instB_V (r := ρ1 (lookN s'.id id)) hF hρ h1.1.mem.bk (fun _ hg => Or.inl hg) g1 (St.ok_bk c8 id b hb).1 (fun c hc => h1.1.mem.bk _ c hc) (g2 hk.right)).1)
          (fun id b hb hm i hi => by
            simp at hi; subst hi
            refine ⟨fun q hq he => c7 q hq (by rw [he]; exact hmem id b hb hm), ?_⟩
            obtain ⟨c, g1, g2⟩ := hsrc id b hb
            exact ⟨c, g1, g2.trans hm⟩)
          (fun i j b c k hi hj hb hc h5 h6 => by
            simp only [Option.some.injEq] at h5 h6
            refine fm_inj c6 (k := k) (List.getElem?_range (List.getElem?_eq_some_iff.1 (getD_someB hi)).1) (List.getElem?_range (List.getElem?_eq_some_iff.1 (getD_someB hj)).1) ?_ ?_
            · rw [show hd.b i = some b from hi]; simp [hb, h5]
            · rw [show hd.b j = some c from hj]; simp [hc, h6])
          (St.ok_sl c8) (St.ok_bk c8)
      · show ρ1 (lookN s'.id id) = ρ id
        rw [c5 id hid]
        exact h2 id (by omega)
    · cases h
  · cases h
end
end
end Go.Sz
