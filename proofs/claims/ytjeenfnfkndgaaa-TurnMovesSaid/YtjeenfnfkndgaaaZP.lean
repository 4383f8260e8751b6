/- The evaluator speaks true of calls by contracts, and so of every operation. -/
import Derived.Test.YtjeenfnfkndgaaaZO
namespace Go.Sz
open Go Go.RowKit
noncomputable section
def idxW : Nat → List (Option Blk) → Ws
  | _, [] => []
  | i, b :: l => (i, b) :: idxW (i + 1) l
/-- what a contract says of a call -/
def Con.eff (c : Con) : Eff := { v := c.res, wr := idxW 0 c.post, nw := c.nw }
/-- a contract holds -/
def Con.Ok (P : Program) (T : Tab) (c : Con) : Prop := ∀ (η : Env) (ρ : Plc) (w : World) (Z : Nat → Prop) (vs : List Value), Mem T η ρ w Z (fun i => c.hp[i]?) → All2 (fun (x : SV) (v : Value) => x.V T η ρ w Z v) c.pat vs → (∀ x ∈ c.need, (x.d T η).bool = true) →
  Calls P c.f vs.toArray w fun e w' => ∃ v ρ' Z', e = .returned v ∧ Did T η ρ w Z c.eff c.hp.length v w' ρ' Z'
theorem mem_idxW : ∀ {l : List (Option Blk)} {k i : Nat} {b : Option Blk}, (i, b) ∈ idxW k l ↔ k ≤ i ∧ l[i - k]? = some b
  | [], k, i, b => by simp [idxW]
  | c :: l, k, i, b => by
    simp only [idxW, List.mem_cons, Prod.mk.injEq, mem_idxW (l := l)]
    constructor
    · rintro (⟨rfl, rfl⟩ | ⟨h1, h2⟩)
      · simp
      · exact ⟨by omega, by rw [show i - k = (i - (k + 1)) + 1 by omega]; simpa using h2⟩
    · rintro ⟨h1, h2⟩
      rcases Nat.eq_or_lt_of_le h1 with rfl | hlt
      · simp at h2; exact .inl ⟨rfl, h2.symm⟩
      · rw [show i - k = (i - (k + 1)) + 1 by omega] at h2
        exact .inr ⟨by omega, by simpa using h2⟩
theorem lookN_range (f : Nat → Nat) (n j : Nat) : lookN ((List.range n).map fun i => (i, f i)) j = if j < n then f j else j := by
  unfold lookN
  have : ((List.range n).map fun i => (i, f i)).find? (·.1 == j) = if j < n then some (j, f j) else none := by
    induction n with
    | zero => simp
    | succ n ih =>
      rw [List.range_succ, List.map_append, List.find?_append, ih]
      by_cases h : j < n
      · rw [if_pos h, if_pos (by omega)]; rfl
      · rw [if_neg h]
        by_cases h2 : j = n
        · subst h2; simp
        · rw [if_neg (by omega)]; simp; omega
  rw [this]
  by_cases h : j < n
  · rw [if_pos h, if_pos h]
  · rw [if_neg h, if_neg h]
section
variable {P : Program} {T : Tab} {η : Env} {ρ ρ1 ρ' : Plc} {w w' : World} {Z Z' : Nat → Prop} {ev : Operand → Option SV} {bk : BK} {E : Operand → Value} {p : Nat → Bool} {nid : Nat} {o : Oper} {e : Eff} {q : List X} {pc : PC} {F : Fs} {s : Sub}
  {dst : Option Tmp} {ty : TypeId} {pos : String} {aft : Array Edge} {gd : Option (Nat × Bool)}
/- substitution in values -/
theorem Sc.sub_V (hF : F.ok T) (hρ : ∀ i, p i = true → ρ1 i = ρ (lookN s.id i)) {c : Sc} {v : Value} (hi : c.ids p = true) : (c.sub F s).V T η ρ w Z v ↔ c.V T (η.sub T s) ρ1 w Z v := by
  cases c <;> simp only [Sc.sub, Sc.V, sub_d hF] <;> simp only [Sc.ids] at hi
  case own => rw [hρ _ hi]
  case ptr => rw [hρ _ hi]
  case rp => rw [hρ _ hi]
  case opq => rfl
theorem VL.sub (hF : F.ok T) (hρ : ∀ i, p i = true → ρ1 i = ρ (lookN s.id i)) : ∀ {l : List Sc} {vs : List Value}, l.all (Sc.ids p) = true → (VL T η ρ w Z (l.map (Sc.sub F s)) vs ↔ VL T (η.sub T s) ρ1 w Z l vs)
  | [], _, _ => by simp [VL]
  | c :: l, vs, hi => by
    simp only [List.all_cons, Bool.and_eq_true] at hi
    simp only [List.map_cons, VL]
    constructor
    · rintro ⟨v, us, h1, h2, h3⟩; exact ⟨v, us, h1, (Sc.sub_V hF hρ hi.1).1 h2, (VL.sub hF hρ hi.2).1 h3⟩
    · rintro ⟨v, us, h1, h2, h3⟩; exact ⟨v, us, h1, (Sc.sub_V hF hρ hi.1).2 h2, (VL.sub hF hρ hi.2).2 h3⟩
theorem S1.sub_V (hF : F.ok T) (hρ : ∀ i, p i = true → ρ1 i = ρ (lookN s.id i)) {c : S1} {v : Value} (hi : c.ids p = true) : (c.sub F s).V T η ρ w Z v ↔ c.V T (η.sub T s) ρ1 w Z v := by
  cases c with
  | one c => exact Sc.sub_V hF hρ (by simpa [S1.ids, S1.cells] using hi)
  | agg l =>
    simp only [S1.sub, S1.V]
    constructor
    · rintro ⟨vs, h1, h2⟩; exact ⟨vs, h1, (VL.sub hF hρ hi).1 h2⟩
    · rintro ⟨vs, h1, h2⟩; exact ⟨vs, h1, (VL.sub hF hρ hi).2 h2⟩
theorem VT.sub (hF : F.ok T) (hρ : ∀ i, p i = true → ρ1 i = ρ (lookN s.id i)) : ∀ {l : List S1} {vs : List Value}, l.all (S1.ids p) = true → (VT T η ρ w Z (l.map (S1.sub F s)) vs ↔ VT T (η.sub T s) ρ1 w Z l vs)
  | [], _, _ => by simp [VT]
  | c :: l, vs, hi => by
    simp only [List.all_cons, Bool.and_eq_true] at hi
    simp only [List.map_cons, VT]
    constructor
    · rintro ⟨v, us, h1, h2, h3⟩; exact ⟨v, us, h1, (S1.sub_V hF hρ hi.1).1 h2, (VT.sub hF hρ hi.2).1 h3⟩
    · rintro ⟨v, us, h1, h2, h3⟩; exact ⟨v, us, h1, (S1.sub_V hF hρ hi.1).2 h2, (VT.sub hF hρ hi.2).2 h3⟩
theorem SV.sub_V (hF : F.ok T) (hρ : ∀ i, p i = true → ρ1 i = ρ (lookN s.id i)) {c : SV} {v : Value} (hi : c.ids p = true) : (c.sub F s).V T η ρ w Z v ↔ c.V T (η.sub T s) ρ1 w Z v := by
  cases c with
  | v x => exact S1.sub_V hF hρ hi
  | tup l =>
    simp only [SV.sub, SV.V]
    constructor
    · rintro ⟨vs, h1, h2⟩; exact ⟨vs, h1, (VT.sub hF hρ hi).1 h2⟩
    · rintro ⟨vs, h1, h2⟩; exact ⟨vs, h1, (VT.sub hF hρ hi).2 h2⟩
theorem Blk.sub_V (hF : F.ok T) (hρ : ∀ i, p i = true → ρ1 i = ρ (lookN s.id i)) {b : Blk} {r : Pl} (hi : b.ids p = true) : (b.sub F s).V T η ρ w Z r ↔ b.V T (η.sub T s) ρ1 w Z r := by
  cases b with
  | box cs =>
    simp only [Blk.sub, Blk.V]
    constructor
    · rintro ⟨h1, h2, vs, h3, h4⟩; exact ⟨h1, h2, vs, (VL.sub hF hρ hi).1 h3, h4⟩
    · rintro ⟨h1, h2, vs, h3, h4⟩; exact ⟨h1, h2, vs, (VL.sub hF hρ hi).2 h3, h4⟩
  | row t e x => simp only [Blk.sub, Blk.V, sub_d hF]
  | froz e x => simp only [Blk.sub, Blk.V, sub_d hF]
theorem Blk.sub_mut {b : Blk} : (b.sub F s).mut = b.mut := by cases b <;> rfl
/- instances -/
theorem instSc_V (hF : F.ok T) (hρ : ∀ i, p i = true → ρ1 i = ρ (lookN s.id i)) (hbk : BKV T η ρ w Z bk) (hZ : ∀ g, Z g → Z' g) {a c : Sc} {ws : Ws} (h : instSc F bk s a c = some ws) (hi : a.ids p = true) {v : Value} (hv : c.V T η ρ w Z v) (hk : Kept ρ Z' ws) : a.V T (η.sub T s) ρ1 w Z' v := by
  have gen : (∀ e x, a ≠ .lst e x) → a.V T (η.sub T s) ρ1 w Z' v := by
    intro hne
    have : a.sub F s = c := by
      unfold instSc at h
      split at h
      · exact absurd rfl (hne _ _)
      · split at h
        · assumption
        · cases h
    rw [← Sc.sub_V (F := F) hF hρ hi, this]
    exact hv.mono (p := fun _ => true) (by cases c <;> rfl) (fun _ _ => rfl) (fun _ _ => rfl) hZ
  cases a with
  | lst e x =>
    simp only [instSc] at h
    split at h
    · rename_i e' y ws' hs
      split at h
      · rename_i hc
        simp at h; subst h
        obtain ⟨rfl, rfl⟩ := hc
        have := sliceX_R (Z' := Z') hbk hs hv hZ hk
        rw [sub_d hF] at this
        exact this
      · cases h
    · split at h
      · rename_i hc
        obtain ⟨rfl, hx⟩ := hc
        simp only [Sc.V] at hv; subst hv
        have hx : x.d T (η.sub T s) = .nil := by rw [← sub_d (F := F) hF, hx]; rfl
        exact ⟨none, 0, 0, rfl, by rw [hx]; rfl, Nat.le_refl _, fun m hm => by omega⟩
      · cases h
  | _ => exact gen (by simp)
theorem instL_V (hF : F.ok T) (hρ : ∀ i, p i = true → ρ1 i = ρ (lookN s.id i)) (hbk : BKV T η ρ w Z bk) (hZ : ∀ g, Z g → Z' g) : ∀ {a c : List Sc} {ws : Ws}, instL F bk s a c = some ws → a.all (Sc.ids p) = true → ∀ {vs : List Value}, VL T η ρ w Z c vs → Kept ρ Z' ws → VL T (η.sub T s) ρ1 w Z' a vs
  | [], [], ws, h, _, vs, hv, _ => hv
  | a :: l, c :: m, ws, h, hi, vs, hv, hk => by
    simp only [instL] at h
    split at h
    · rename_i w1 w2 h1 h2
      simp at h; subst h
      simp only [List.all_cons, Bool.and_eq_true] at hi
      obtain ⟨v, us, rfl, g1, g2⟩ := hv
      exact ⟨v, us, rfl, instSc_V hF hρ hbk hZ h1 hi.1 g1 hk.left, instL_V hF hρ hbk hZ h2 hi.2 g2 hk.right⟩
    · cases h
  | [], _ :: _, ws, h, _, vs, hv, _ => by simp [instL] at h
  | _ :: _, [], ws, h, _, vs, hv, _ => by simp [instL] at h
theorem inst1_V (hF : F.ok T) (hρ : ∀ i, p i = true → ρ1 i = ρ (lookN s.id i)) (hbk : BKV T η ρ w Z bk) (hZ : ∀ g, Z g → Z' g) {a c : S1} {ws : Ws} (h : inst1 F bk s a c = some ws) (hi : a.ids p = true) {v : Value} (hv : c.V T η ρ w Z v) (hk : Kept ρ Z' ws) : a.V T (η.sub T s) ρ1 w Z' v := by
  cases a <;> cases c <;> simp only [inst1, reduceCtorEq] at h
  · exact instSc_V hF hρ hbk hZ h (by simpa [S1.ids, S1.cells] using hi) hv hk
  · obtain ⟨vs, h1, h2⟩ := hv
    exact ⟨vs, h1, instL_V hF hρ hbk hZ h hi h2 hk⟩
theorem instT_V (hF : F.ok T) (hρ : ∀ i, p i = true → ρ1 i = ρ (lookN s.id i)) (hbk : BKV T η ρ w Z bk) (hZ : ∀ g, Z g → Z' g) : ∀ {a c : List S1} {ws : Ws}, instT F bk s a c = some ws → a.all (S1.ids p) = true → ∀ {vs : List Value}, VT T η ρ w Z c vs → Kept ρ Z' ws → VT T (η.sub T s) ρ1 w Z' a vs
  | [], [], ws, h, _, vs, hv, _ => hv
  | a :: l, c :: m, ws, h, hi, vs, hv, hk => by
    simp only [instT] at h
    split at h
    · rename_i w1 w2 h1 h2
      simp at h; subst h
      simp only [List.all_cons, Bool.and_eq_true] at hi
      obtain ⟨v, us, rfl, g1, g2⟩ := hv
      exact ⟨v, us, rfl, inst1_V hF hρ hbk hZ h1 hi.1 g1 hk.left, instT_V hF hρ hbk hZ h2 hi.2 g2 hk.right⟩
    · cases h
  | [], _ :: _, ws, h, _, vs, hv, _ => by simp [instT] at h
  | _ :: _, [], ws, h, _, vs, hv, _ => by simp [instT] at h
theorem instV_V (hF : F.ok T) (hρ : ∀ i, p i = true → ρ1 i = ρ (lookN s.id i)) (hbk : BKV T η ρ w Z bk) (hZ : ∀ g, Z g → Z' g) {a c : SV} {ws : Ws} (h : instV F bk s a c = some ws) (hi : a.ids p = true) {v : Value} (hv : c.V T η ρ w Z v) (hk : Kept ρ Z' ws) : a.V T (η.sub T s) ρ1 w Z' v := by
  cases a <;> cases c <;> simp only [instV, reduceCtorEq] at h
  · exact inst1_V hF hρ hbk hZ h hi hv hk
  · obtain ⟨vs, h1, h2⟩ := hv
    exact ⟨vs, h1, instT_V hF hρ hbk hZ h hi h2 hk⟩
theorem instA_V (hF : F.ok T) (hρ : ∀ i, p i = true → ρ1 i = ρ (lookN s.id i)) (hbk : BKV T η ρ w Z bk) (hZ : ∀ g, Z g → Z' g) : ∀ {a c : List SV} {ws : Ws}, instA F bk s a c = some ws → a.all (SV.ids p) = true → ∀ {p0 : Nat → Bool} {vs : List Value}, All2 (fun (v : SV) (u : Value) => v.V T η ρ w Z u ∧ v.ids p0 = true) c vs → Kept ρ Z' ws → All2 (fun (x : SV) (v : Value) => x.V T (η.sub T s) ρ1 w Z' v) a vs
  | [], [], ws, h, _, p0, vs, hv, _ => by cases hv; exact .nil
  | a :: l, c :: m, ws, h, hi, p0, vs, hv, hk => by
    simp only [instA] at h
    split at h
    · rename_i w1 w2 h1 h2
      simp at h; subst h
      simp only [List.all_cons, Bool.and_eq_true] at hi
      cases hv with
      | cons g1 g2 => exact .cons (instV_V hF hρ hbk hZ h1 hi.1 g1.1 hk.left) (instA_V hF hρ hbk hZ h2 hi.2 g2 hk.right)
    · cases h
  | [], _ :: _, ws, h, _, _, vs, hv, _ => by simp [instA] at h
  | _ :: _, [], ws, h, _, _, vs, hv, _ => by simp [instA] at h
/- what does not name memory that came in -/
theorem Sc.V.any {c : Sc} {v : Value} (h : c.V T η ρ w Z v) (hc : c.isLst = false) : c.V T η ρ w Z' v := by
  cases c <;> first | exact h | cases hc
theorem VL.any : ∀ {l : List Sc} {vs : List Value}, VL T η ρ w Z l vs → l.any Sc.isLst = false → VL T η ρ w Z' l vs
  | [], _, h, _ => h
  | c :: l, _, h, hc => by
    simp only [List.any_cons, Bool.or_eq_false_iff] at hc
    obtain ⟨v, us, h1, h2, h3⟩ := h
    exact ⟨v, us, h1, h2.any hc.1, VL.any h3 hc.2⟩
theorem S1.V.any {c : S1} {v : Value} (h : c.V T η ρ w Z v) (hc : c.cells.any Sc.isLst = false) : c.V T η ρ w Z' v := by
  cases c with
  | one c => exact Sc.V.any h (by simpa [S1.cells] using hc)
  | agg l => obtain ⟨vs, h1, h2⟩ := h; exact ⟨vs, h1, VL.any h2 hc⟩
theorem VT.any : ∀ {l : List S1} {vs : List Value}, VT T η ρ w Z l vs → (l.any fun x => x.cells.any Sc.isLst) = false → VT T η ρ w Z' l vs
  | [], _, h, _ => h
  | c :: l, _, h, hc => by
    simp only [List.any_cons, Bool.or_eq_false_iff] at hc
    obtain ⟨v, us, h1, h2, h3⟩ := h
    exact ⟨v, us, h1, h2.any hc.1, VT.any h3 hc.2⟩
theorem SV.V.any' {c : SV} {v : Value} (h : c.V T η ρ w Z v) (hc : c.any Sc.isLst = false) : c.V T η ρ w Z' v := by
  cases c with
  | v x => exact S1.V.any h hc
  | tup l => obtain ⟨vs, h1, h2⟩ := h; exact ⟨vs, h1, VT.any h2 hc⟩
theorem Blk.V.any {b : Blk} {r : Pl} (h : b.V T η ρ w Z r) (hc : b.alias = false) : b.V T η ρ w Z' r := by
  cases b with
  | box cs => obtain ⟨h1, h2, vs, h3, h4⟩ := h; exact ⟨h1, h2, vs, VL.any h3 hc, h4⟩
  | row t e x =>
    obtain ⟨h1, h2, vs, h3, h4⟩ := h
    exact ⟨h1, h2, vs, h3, fun m hm => by obtain ⟨us, g1, g2, g3⟩ := h4 m hm; exact ⟨us, g1, R.flat (by simpa [Blk.alias] using hc) g2, g3⟩⟩
  | froz e x => cases hc
theorem instSc_rows {a c : Sc} {ws : Ws} (h : instSc F bk s a c = some ws) : Rows bk ws := by
  unfold instSc at h
  split at h
  · split at h
    · rename_i e' y ws' hs
      split at h
      · simp at h; subst h; exact sliceX_rows hs
      · cases h
    · split at h <;> simp at h; subst h; exact nofun
  · split at h <;> simp at h; subst h; exact nofun
theorem instL_rows : ∀ {a c : List Sc} {ws : Ws}, instL F bk s a c = some ws → Rows bk ws
  | [], [], ws, h => by simp [instL] at h; subst h; exact nofun
  | a :: l, c :: m, ws, h => by
    simp only [instL] at h
    split at h
    · rename_i w1 w2 h1 h2
      simp at h; subst h
      exact (instSc_rows h1).join (instL_rows h2)
    · cases h
  | [], _ :: _, ws, h => by simp [instL] at h
  | _ :: _, [], ws, h => by simp [instL] at h
theorem inst1_rows {a c : S1} {ws : Ws} (h : inst1 F bk s a c = some ws) : Rows bk ws := by
  cases a <;> cases c <;> simp only [inst1, reduceCtorEq] at h
  · exact instSc_rows h
  · exact instL_rows h
theorem instT_rows : ∀ {a c : List S1} {ws : Ws}, instT F bk s a c = some ws → Rows bk ws
  | [], [], ws, h => by simp [instT] at h; subst h; exact nofun
  | a :: l, c :: m, ws, h => by
    simp only [instT] at h
    split at h
    · rename_i w1 w2 h1 h2
      simp at h; subst h
      exact (inst1_rows h1).join (instT_rows h2)
    · cases h
  | [], _ :: _, ws, h => by simp [instT] at h
  | _ :: _, [], ws, h => by simp [instT] at h
theorem instV_rows {a c : SV} {ws : Ws} (h : instV F bk s a c = some ws) : Rows bk ws := by
  cases a <;> cases c <;> simp only [instV, reduceCtorEq] at h
  · exact inst1_rows h
  · exact instT_rows h
theorem instA_rows : ∀ {a c : List SV} {ws : Ws}, instA F bk s a c = some ws → Rows bk ws
  | [], [], ws, h => by simp [instA] at h; subst h; exact nofun
  | a :: l, c :: m, ws, h => by
    simp only [instA] at h
    split at h
    · rename_i w1 w2 h1 h2
      simp at h; subst h
      exact (instV_rows h1).join (instA_rows h2)
    · cases h
  | [], _ :: _, ws, h => by simp [instA] at h
  | _ :: _, [], ws, h => by simp [instA] at h
theorem instB_rows {a : Blk} {c : Option Blk} {ws : Ws} (h : instB F bk s a c = some ws) : Rows bk ws := by
  unfold instB at h
  split at h
  · exact instL_rows h
  · split at h <;> simp at h; subst h; exact nofun
  · split at h <;> simp at h; subst h; exact nofun
  · cases h
theorem instB_V (hF : F.ok T) (hρ : ∀ i, p i = true → ρ1 i = ρ (lookN s.id i)) (hbk : BKV T η ρ w Z bk) (hZ : ∀ g, Z g → Z' g) {a : Blk} {c : Option Blk} {ws : Ws} (h : instB F bk s a c = some ws) (hi : a.ids p = true) {r : Pl} (hv : ∀ b, c = some b → b.V T η ρ w Z r) (hk : Kept ρ Z' ws) : a.V T (η.sub T s) ρ1 w Z' r ∧ ∃ b, c = some b ∧ b.mut = a.mut := by
  unfold instB at h
  split at h
  · obtain ⟨h1, h2, vs, h3, h4⟩ := hv _ rfl
    exact ⟨⟨h1, h2, vs, instL_V hF hρ hbk hZ h hi h3 hk, h4⟩, _, rfl, rfl⟩
  · split at h
    · rename_i hc
      obtain ⟨rfl, rfl, rfl⟩ := hc
      have := (hv _ rfl).mono (p := fun _ => true) rfl (fun _ _ => rfl) (fun _ _ => rfl) hZ (Nat.le_refl _) (fun _ _ => rfl) (Z' := Z') (ρ' := ρ)
      exact ⟨(Blk.sub_V (F := F) (s := s) (b := .row _ _ _) hF hρ hi).1 this, _, rfl, rfl⟩
    · cases h
  · split at h
    · rename_i hc
      obtain ⟨rfl, rfl⟩ := hc
      have := (hv _ rfl).mono (p := fun _ => true) rfl (fun _ _ => rfl) (fun _ _ => rfl) hZ (Nat.le_refl _) (fun _ _ => rfl) (Z' := Z') (ρ' := ρ)
      exact ⟨(Blk.sub_V (F := F) (s := s) (b := .froz _ _) hF hρ hi).1 this, _, rfl, rfl⟩
    · cases h
  · cases h
theorem instH_get : ∀ {l : List Blk} {k : Nat} {ws : Ws}, instH F bk s k l = some ws → Rows bk ws ∧ ∀ {i : Nat} {b : Blk}, l[i]? = some b → ∃ w1, instB F bk s b (bk (lookN s.id (k + i))) = some w1 ∧ ∀ Z', Kept ρ Z' ws → Kept ρ Z' w1
  | [], k, ws, h => by simp [instH] at h; subst h; exact ⟨nofun, fun h => by simp at h⟩
  | b :: l, k, ws, h => by
    simp only [instH] at h
    split at h
    · rename_i w1 w2 h1 h2
      simp at h; subst h
      obtain ⟨g1, g2⟩ := instH_get h2
      refine ⟨(instB_rows h1).join g1, fun {i c} hi => ?_⟩
      cases i with
      | zero => simp at hi; subst hi; exact ⟨w1, h1, fun Z' hk => hk.left⟩
      | succ i =>
        obtain ⟨w3, g3, g4⟩ := g2 (i := i) (b := c) (by simpa using hi)
        exact ⟨w3, by rw [show k + (i + 1) = k + 1 + i by omega]; exact g3, fun Z' hk => g4 Z' hk.right⟩
    · cases h
theorem nodupB_get : ∀ {l : List Nat}, nodupB l = true → ∀ {i j x : Nat}, l[i]? = some x → l[j]? = some x → i = j
  | [], _, i, j, x, h1, _ => by simp at h1
  | a :: l, h, i, j, x, h1, h2 => by
    simp only [nodupB, Bool.and_eq_true, Bool.not_eq_true', List.contains_eq_mem, decide_eq_false_iff_not] at h
    cases i with
    | zero =>
      cases j with
      | zero => rfl
      | succ j =>
        simp at h1 h2; subst h1
        exact absurd (List.mem_of_getElem? h2) h.1
    | succ i =>
      cases j with
      | zero =>
        simp at h1 h2; subst h2
        exact absurd (List.mem_of_getElem? h1) h.1
      | succ j => exact congrArg (· + 1) (nodupB_get h.2 (i := i) (j := j) (x := x) (by simpa using h1) (by simpa using h2))
theorem mem_postW : ∀ {l : List (Option Blk)} {k : Nat} {q : Nat × Option Blk}, q ∈ postW F s k l ↔ ∃ i b, l[i]? = some b ∧ q = (lookN s.id (k + i), b.map (Blk.sub F s))
  | [], k, q => by simp [postW]
  | c :: l, k, q => by
    simp only [postW, List.mem_cons, mem_postW (l := l)]
    constructor
    · rintro (rfl | ⟨i, b, h1, h2⟩)
      · exact ⟨0, c, rfl, rfl⟩
      · exact ⟨i + 1, b, by simpa using h1, by rw [h2, show k + 1 + i = k + (i + 1) by omega]⟩
    · rintro ⟨i, b, h1, h2⟩
      cases i with
      | zero => simp at h1; subst h1; exact .inl h2
      | succ i => exact .inr ⟨i, b, by simpa using h1, by rw [h2, show k + 1 + i = k + (i + 1) by omega]⟩
/-- A CALL BY A CONTRACT -/
theorem call_good {c : Con} {as : List SV} {vs : List Value} (hs : Sees T η ρ w Z ev bk E p) (hF : F.ok T) (hc : c.Ok P T) (h : c.at F bk nid as = some (e, q)) (hq : ∀ x ∈ q, (x.d T η).bool = true) (hargs : All2 (fun (v : SV) (u : Value) => v.V T η ρ w Z u ∧ v.ids p = true) as vs)
    (fresh : ∀ k, k < e.nw.length → p (nid + k) = false) :
    (Calls P c.f vs.toArray w fun e' w' => ∃ v, e' = .returned v ∧ ∃ ρ' Z', Did T η ρ w Z e nid v w' ρ' Z') ∧ ∀ q ∈ e.wr, ∃ b, bk q.1 = some b ∧ b.mut = true := by
  unfold Con.at at h
  simp only at h
  split at h
  · rename_i ws wh hA hH
    split at h
    · rename_i hcond
      simp only [Option.some.injEq, Prod.mk.injEq] at h
      obtain ⟨rfl, rfl⟩ := h
      generalize hsd : ({ n := (colH bk (colA bk ⟨0, [], [], []⟩ c.pat as) 0 c.hp).n, x := (colH bk (colA bk ⟨0, [], [], []⟩ c.pat as) 0 c.hp).x, id := (List.range (c.hp.length + c.nw.length)).map fun i => (i, if i < c.hp.length then lookN (colH bk (colA bk ⟨0, [], [], []⟩ c.pat as) 0 c.hp).id i else nid + (i - c.hp.length)), v := (colH bk (colA bk ⟨0, [], [], []⟩ c.pat as) 0 c.hp).v } : Sub) = s at *
      have hid : ∀ k, k < c.nw.length → lookN s.id (c.hp.length + k) = nid + k := fun k hk => by
        rw [← hsd]
        simp only
        rw [lookN_range, if_pos (by omega), if_neg (by omega)]
        omega
      obtain ⟨-, hfit, hnd, hfz⟩ := hcond
      have hsid : s.id = (List.range (c.hp.length + c.nw.length)).map fun i => (i, if i < c.hp.length then lookN (colH bk (colA bk ⟨0, [], [], []⟩ c.pat as) 0 c.hp).id i else nid + (i - c.hp.length)) := by rw [← hsd]
      rw [← hsid] at hnd hfz
      simp only [List.length_map] at fresh
      unfold Con.fit at hfit
      simp only [Bool.and_eq_true, decide_eq_true_eq] at hfit
      obtain ⟨⟨⟨⟨⟨f1, f2⟩, f3⟩, f4⟩, f5⟩, f6⟩ := hfit
      have hrows : Rows bk (joinW ws wh) := (instA_rows hA).join (instH_get (ρ := ρ) hH).1
      have hkf := frz_kept ρ Z (joinW ws wh)
      have hget : ∀ i b, c.hp[i]? = some b → b.V T (η.sub T s) (fun i => ρ (lookN s.id i)) w (frzZ ρ Z (joinW ws wh)) (ρ (lookN s.id i)) ∧ ∃ b', bk (lookN s.id i) = some b' ∧ b'.mut = true ∧ b.mut = true := fun i b hb => by
        obtain ⟨w1, g1, g2⟩ := (instH_get (ρ := ρ) hH).2 hb
        rw [Nat.zero_add] at g1
        have hbm := List.all_eq_true.1 f2 b (List.mem_of_getElem? hb)
        simp only [Bool.and_eq_true] at hbm
        obtain ⟨r1, b', r2, r3⟩ := instB_V (ρ1 := fun i => ρ (lookN s.id i)) (p := fun i => decide (i < c.hp.length)) hF (fun _ _ => rfl) hs.mem.bk (fun g hg => Or.inl hg) g1 hbm.1 (fun b' hb' => hs.mem.bk _ _ hb') (g2 _ hkf.right)
        exact ⟨r1, b', r2, by rw [r3]; exact hbm.2, hbm.2⟩
      have hidl : ∀ i, i < c.hp.length → (List.map (lookN s.id) (List.range c.hp.length))[i]? = some (lookN s.id i) := fun i hi => by simp [hi]
      have hidp : ∀ i, i < c.hp.length → p (lookN s.id i) = true := fun i hi => by
        obtain ⟨-, b', r2, -⟩ := hget i c.hp[i] (by simp [hi])
        exact (hs.bkp _ _ r2).2
      have hnin : ∀ i, i < c.hp.length → ¬(nid ≤ lookN s.id i ∧ lookN s.id i < nid + c.nw.length) := fun i hi hh => by
        have h1 := hidp i hi
        have := fresh (lookN s.id i - nid) (by omega)
        rw [show nid + (lookN s.id i - nid) = lookN s.id i by omega] at this
        rw [this] at h1; cases h1
      have hnotZ : ∀ i, i < c.hp.length → ∀ g, (ρ (lookN s.id i)).at g → g < w.heap.size ∧ ¬frzZ ρ Z (joinW ws wh) g := fun i hi g hat => by
        obtain ⟨-, b', r2, r3, -⟩ := hget i c.hp[i] (by simp [hi])
        obtain ⟨g1, g2⟩ := hs.mem.own _ _ r2 r3 g hat
        refine ⟨g1, ?_⟩
        rintro (hz | ⟨q, hq', hat'⟩)
        · exact g2 hz
        · obtain ⟨t, e, x, h1, -⟩ := hrows q hq'
          have := hs.mem.inj _ _ _ _ g h1 r2 rfl r3 hat' hat
          exact hfz q hq' (by rw [this]; exact List.mem_map_of_mem (List.mem_range.2 hi))
      have hmem : Mem T (η.sub T s) (fun i => ρ (lookN s.id i)) w (frzZ ρ Z (joinW ws wh)) (fun i => c.hp[i]?) := by
        refine ⟨fun i b hb => (hget i b hb).1, fun i b hb _ g hat => hnotZ i (List.getElem?_eq_some_iff.1 hb).1 g hat, fun i j b c' g hi hj _ _ hati hatj => ?_, frz_lt hs hrows⟩
        obtain ⟨-, b1, r1, r2, -⟩ := hget i b hi
        obtain ⟨-, b2, r3, r4, -⟩ := hget j c' hj
        have := hs.mem.inj _ _ _ _ g r1 r3 r2 r4 hati hatj
        have i1 := hidl i (List.getElem?_eq_some_iff.1 hi).1
        have i2 := hidl j (List.getElem?_eq_some_iff.1 hj).1
        rw [← this] at i2
        exact nodupB_get hnd i1 i2
      have hA2 := instA_V (ρ1 := fun i => ρ (lookN s.id i)) (p := fun i => decide (i < c.hp.length)) (Z' := frzZ ρ Z (joinW ws wh)) hF (fun _ _ => rfl) hs.mem.bk (fun g hg => Or.inl hg) hA f1 hargs hkf.left
      have hcall := hc (η.sub T s) (fun i => ρ (lookN s.id i)) w (frzZ ρ Z (joinW ws wh)) vs hmem hA2 (fun x hx => by
        rw [← sub_d (F := F) hF]
        exact needs_mem hq _ (List.mem_map_of_mem hx))
      refine ⟨hcall.mono ?_, ?_⟩
      · rintro e' w' ⟨v, ρc, Zc, rfl, d⟩
        refine ⟨v, rfl, fun id => if nid ≤ id ∧ id < nid + c.nw.length then ρc (c.hp.length + (id - nid)) else ρ id, fun g => Zc g ∧ (c.alias = false → ∀ q ∈ joinW ws wh, ¬(ρ q.1).at g), ?_⟩
        have hρ'' : ∀ i, decide (i < c.hp.length + c.nw.length) = true → ρc i = (fun id => if nid ≤ id ∧ id < nid + c.nw.length then ρc (c.hp.length + (id - nid)) else ρ id) (lookN s.id i) := fun i hi => by
          rw [decide_eq_true_eq] at hi
          simp only
          rcases Nat.lt_or_ge i c.hp.length with hlt | hge
          · rw [if_neg (hnin i hlt)]; exact d.old i (.inl hlt)
          · obtain ⟨k, rfl⟩ : ∃ k, i = c.hp.length + k := ⟨i - c.hp.length, by omega⟩
            have hk : k < c.nw.length := by omega
            rw [hid k hk, if_pos ⟨by omega, by omega⟩, show nid + k - nid = k by omega]
        have hZc : c.alias = true → ∀ g, Zc g → (Zc g ∧ (c.alias = false → ∀ q ∈ joinW ws wh, ¬(ρ q.1).at g)) := fun ha g hg => ⟨hg, fun hb => by rw [ha] at hb; cases hb⟩
        have hval : ∀ {x : SV} {u : Value}, x.ids (fun i => decide (i < c.hp.length + c.nw.length)) = true → (c.alias = false → x.any Sc.isLst = false) → x.V T (η.sub T s) ρc w' Zc u → (x.sub F s).V T η (fun id => if nid ≤ id ∧ id < nid + c.nw.length then ρc (c.hp.length + (id - nid)) else ρ id) w' (fun g => Zc g ∧ (c.alias = false → ∀ q ∈ joinW ws wh, ¬(ρ q.1).at g)) u := by
          intro x u hx ha hu
          refine (SV.sub_V hF hρ'' hx).2 ?_
          cases hal : c.alias with
          | false => exact SV.V.any' hu (ha hal)
          | true => exact hu.mono hx (fun _ _ => rfl) (fun _ _ => rfl) (fun g hg => ⟨hg, nofun⟩)
        have hblk : ∀ {x : Blk} {r : Pl}, x.ids (fun i => decide (i < c.hp.length + c.nw.length)) = true → (c.alias = false → x.alias = false) → x.V T (η.sub T s) ρc w' Zc r → (x.sub F s).V T η (fun id => if nid ≤ id ∧ id < nid + c.nw.length then ρc (c.hp.length + (id - nid)) else ρ id) w' (fun g => Zc g ∧ (c.alias = false → ∀ q ∈ joinW ws wh, ¬(ρ q.1).at g)) r := by
          intro x r hx ha hu
          refine (Blk.sub_V hF hρ'' hx).2 ?_
          cases hal : c.alias with
          | false => exact Blk.V.any hu (ha hal)
          | true => exact hu.mono hx (fun _ _ => rfl) (fun _ _ => rfl) (fun g hg => ⟨hg, nofun⟩) (Nat.le_refl _) (fun _ _ => rfl)
        have hal := fun (ha : c.alias = false) => by
          unfold Con.alias at ha
          simp only [Bool.or_eq_false_iff] at ha
          exact ha
        have hpost : ∀ {i : Nat} {b : Option Blk}, c.post[i]? = some b → i < c.hp.length := fun h => by rw [← f5]; exact (List.getElem?_eq_some_iff.1 h).1
        have hwrc : ∀ {i : Nat} {b : Option Blk}, (i, b) ∈ c.eff.wr ↔ c.post[i]? = some b := fun {i b} => by show (i, b) ∈ idxW 0 c.post ↔ _; rw [mem_idxW]; simp
        refine ⟨d.os, d.tape, d.output, d.size, fun id hi => if_neg (by simp only [List.length_map] at hi; omega), hval f3 (fun ha => (hal ha).1.1) d.val, fun g hg hn => d.other g hg fun q hq' hat => ?_, fun id b hm => ?_, fun k b hk => ?_, fun k b hk hm g hat => ?_, fun k l b b' g hk hl hbm hbm' hat hat' => ?_, fun g hg => ⟨d.zm g (.inl hg), fun _ q hq' hat => ?_⟩, fun g hg => d.zlt g hg.1, fun g hg => ?_⟩
        · obtain ⟨i, b⟩ := q
          exact hn (lookN s.id i, b.map (Blk.sub F s)) (List.mem_append_left _ (mem_postW.2 ⟨i, b, hwrc.1 hq', by rw [Nat.zero_add]⟩)) hat
        · rcases List.mem_append.1 hm with h1 | h1
          · obtain ⟨i, b0, h2, h3⟩ := mem_postW.1 h1
            rw [Nat.zero_add] at h3
            cases b0 with
            | none => simp at h3
            | some b0 =>
              simp only [Option.map_some, Prod.mk.injEq, Option.some.injEq] at h3
              obtain ⟨rfl, rfl⟩ := h3
              have hb0 := List.all_eq_true.1 f6 _ (List.mem_of_getElem? h2)
              refine hblk hb0 (fun ha => ?_) (d.wr i b0 (hwrc.2 h2))
              have := (hal ha).2
              rw [List.any_eq_false] at this
              simpa using this _ (List.mem_of_getElem? h2)
          · split at h1
            · rename_i hali
              obtain ⟨t, e, x, g1, g2⟩ := hrows _ h1
              simp at g2; subst g2
              have := row_R (Z' := frzZ ρ Z (joinW ws wh)) (hs.mem.bk _ _ g1) (fun g hg => .inl hg) fun g hg => .inr ⟨_, h1, hg⟩
              refine R.mono (fun g hg => ?_) (fun g hg => ⟨d.zm g hg, fun hb => by rw [hali] at hb; cases hb⟩) this
              refine d.other g (frz_lt hs hrows g hg) fun q hq' hat => ?_
              obtain ⟨i, b⟩ := q
              exact (hnotZ i (hpost (hwrc.1 hq')) g hat).2 hg
            · cases h1
        · rw [List.getElem?_map] at hk
          simp only [Option.map_eq_some_iff] at hk
          obtain ⟨b0, hk, rfl⟩ := hk
          have hkl := (List.getElem?_eq_some_iff.1 hk).1
          have := hblk (List.all_eq_true.1 f4 _ (List.mem_of_getElem? hk)) (fun ha => by
            have := (hal ha).1.2
            rw [List.any_eq_false] at this
            simpa using this _ (List.mem_of_getElem? hk)) (d.nw k b0 hk)
          try simp only
          rw [if_pos ⟨by omega, by omega⟩, show nid + k - nid = k by omega]
          exact this
        · rw [List.getElem?_map] at hk
          simp only [Option.map_eq_some_iff] at hk
          obtain ⟨b0, hk, rfl⟩ := hk
          have hkl := (List.getElem?_eq_some_iff.1 hk).1
          try simp only at hat
          rw [if_pos ⟨by omega, by omega⟩, show nid + k - nid = k by omega] at hat
          rw [Blk.sub_mut] at hm
          obtain ⟨g1, g2, g3⟩ := d.nwp k b0 hk hm g hat
          refine ⟨g1, fun hz => g2 hz.1, ?_⟩
          rcases g3 with g3 | ⟨i, g3, g4⟩
          · exact .inl g3
          · exact .inr ⟨lookN s.id i, List.mem_append_left _ (mem_postW.2 ⟨i, none, hwrc.1 g3, by rw [Nat.zero_add]; rfl⟩), g4⟩
        · rw [List.getElem?_map] at hk hl
          simp only [Option.map_eq_some_iff] at hk hl
          obtain ⟨b0, hk, rfl⟩ := hk
          obtain ⟨b1, hl, rfl⟩ := hl
          have hkl := (List.getElem?_eq_some_iff.1 hk).1
          have hll := (List.getElem?_eq_some_iff.1 hl).1
          try simp only at hat hat'
          rw [if_pos ⟨by omega, by omega⟩, show nid + k - nid = k by omega] at hat
          rw [if_pos ⟨by omega, by omega⟩, show nid + l - nid = l by omega] at hat'
          rw [Blk.sub_mut] at hbm hbm'
          exact d.nwi k l b0 b1 g hk hl hbm hbm' hat hat'
        · obtain ⟨t, e, x, g1, -⟩ := hrows q hq'
          exact (hs.mem.own _ _ g1 rfl g hat).2 hg
        · rcases d.zn g hg.1 with (h1 | ⟨q, hq', hat⟩) | h1 | ⟨q, hq', h2, h3⟩
          · exact .inl h1
          · cases hali : c.alias with
            | false => exact absurd hat (hg.2 hali q hq')
            | true =>
              refine .inr (.inr ⟨q, List.mem_append_right _ (by rw [if_pos rfl]; exact hq'), fun b hb => ?_, hat⟩)
              obtain ⟨t, e, x, -, h2⟩ := hrows q hq'
              rw [h2] at hb; simp at hb; subst hb; rfl
          · exact .inr (.inl h1)
          · obtain ⟨i, b⟩ := q
            refine .inr (.inr ⟨(lookN s.id i, b.map (Blk.sub F s)), List.mem_append_left _ (mem_postW.2 ⟨i, b, hwrc.1 hq', by rw [Nat.zero_add]⟩), fun b' hb' => ?_, h3⟩)
            simp only [Option.map_eq_some_iff] at hb'
            obtain ⟨b0, rfl, rfl⟩ := hb'
            rw [Blk.sub_mut]
            exact h2 b0 rfl
      · intro q hq'
        rcases List.mem_append.1 hq' with h1 | h1
        · obtain ⟨i, b0, h2, rfl⟩ := mem_postW.1 h1
          rw [Nat.zero_add]
          have hi : i < c.hp.length := by rw [← f5]; exact (List.getElem?_eq_some_iff.1 h2).1
          obtain ⟨-, b', r2, r3, -⟩ := hget i c.hp[i] (by simp [hi])
          exact ⟨b', r2, r3⟩
        · split at h1
          · exact hrows.alive q h1
          · cases h1
    · cases h
  · cases h
theorem callK_good {K : List Con} {f : FuncId} {as : List SV} {vs : List Value} (hs : Sees T η ρ w Z ev bk E p) (hF : F.ok T) (hq : ∀ x ∈ q, (x.d T η).bool = true) (hargs : All2 (fun (v : SV) (u : Value) => v.V T η ρ w Z u ∧ v.ids p = true) as vs)
    (fresh : ∀ k, k < e.nw.length → p (nid + k) = false) : (∀ c ∈ K, c.Ok P T) → callK F bk nid K f as = some (e, q) →
    (Calls P f vs.toArray w fun e' w' => ∃ v, e' = .returned v ∧ ∃ ρ' Z', Did T η ρ w Z e nid v w' ρ' Z') ∧ ∀ q ∈ e.wr, ∃ b, bk q.1 = some b ∧ b.mut = true := by
  induction K with
  | nil => intro _ h; simp [callK] at h
  | cons c K ih =>
    intro hK h
    simp only [callK] at h
    split at h
    · rename_i hcf; subst hcf
      split at h
      · rename_i r hr
        simp at h; subst h
        exact call_good hs hF (hK c (List.mem_cons_self ..)) hr hq hargs fresh
      · exact ih (fun c hc => hK c (List.mem_cons_of_mem _ hc)) h
    · exact ih (fun c hc => hK c (List.mem_cons_of_mem _ hc)) h
theorem eFunc_good {K : List Con} {f : Operand} {args : Array Operand} {types : Array TypeId} (hs : Sees T η ρ w Z ev bk E p) (hF : F.ok T) (hK : ∀ c ∈ K, c.Ok P T) (h : eFunc P F K bk nid ev f args.toList = some (e, q)) (hq : ∀ x ∈ q, (x.d T η).bool = true) (fresh : ∀ k, k < e.nw.length → p (nid + k) = false) :
    Good P T η ρ w Z bk E nid ⟨dst, .call ⟨.value f, args, types⟩, ty, pos, aft, gd⟩ e := by
  unfold eFunc at h
  split at h
  · rename_i g hf
    have hfv := (hs.one hf).1
    simp only [Sc.V] at hfv
    split at h
    · rename_i fn hfun
      split at h
      · rename_i hb
        split at h
        · rename_i as has
          obtain ⟨h1, h2⟩ := callK_good hs hF hq (evs_V hs has) fresh hK h
          refine ⟨?_, h2⟩
          simp only [Bool.and_eq_true, Option.isSome_iff_ne_none, bne_iff_ne, ne_eq] at hb
          have ha : args.map E = (args.toList.map E).toArray := by apply Array.ext'; simp
          have hrun : (execOp E ⟨dst, .call ⟨.value f, args, types⟩, ty, pos, aft, gd⟩).run P w = .ok (.enter g (args.toList.map E).toArray) w := by
            simp [execOp, resolve, Deferred.ofValue, hfv, invoke, callFunc, hfun, hb.1, hb.2, ← ha]
          unfold Does
          rw [hrun]
          exact h1
        · cases h
      · cases h
    · cases h
  · cases h
theorem evalCall_good {K : List Con} {c : Call} (hs : Sees T η ρ w Z ev bk E p) (hF : F.ok T) (hK : ∀ c ∈ K, c.Ok P T) (h : evalCall P F K bk nid ev c = some (e, q)) (hq : ∀ x ∈ q, (x.d T η).bool = true) (fresh : ∀ k, k < e.nw.length → p (nid + k) = false) :
    Good P T η ρ w Z bk E nid ⟨dst, .call c, ty, pos, aft, gd⟩ e := by
  unfold evalCall at h
  split at h
  · rename_i hc; exact eLen_good hs hc h
  · rename_i hc
    obtain ⟨callee, args, types⟩ := c
    simp only at hc; subst hc
    unfold eAppend at h
    split at h
    · rename_i t t' a b ht ha
      split at h
      · rename_i htt; subst htt
        have : args = #[a, b] := by apply Array.ext'; simpa using ha
        subst this
        have : types = #[t, t] := by apply Array.ext'; simpa using ht
        subst this
        refine appS_good hs ?_ h hq
        have := fresh 0
        rw [Nat.add_zero] at this
        apply this
        unfold appS at h
        split at h
        · split at h
          · split at h
            · split at h
              · simp only [Option.some.injEq, Prod.mk.injEq] at h; obtain ⟨rfl, -⟩ := h; simp
              · split at h
                · split at h
                  · simp only [Option.some.injEq, Prod.mk.injEq] at h; obtain ⟨rfl, -⟩ := h; simp
                  · cases h
                · cases h
              · cases h
            · cases h
          · cases h
        · cases h
      · cases h
    · cases h
  · rename_i hc; exact eMin_good hs hc h
  · rename_i hc; exact eMax_good hs hc h
  · rename_i f hc
    obtain ⟨callee, args, types⟩ := c
    simp only at hc; subst hc
    exact eFunc_good hs hF hK h hq fresh
  · cases h
theorem eBinOp_good {op : BinOp} {t yt : TypeId} {x y : Operand} (hs : Sees T η ρ w Z ev bk E p) (h : eBinOp P ev op t x y = some (e, q)) (hq : ∀ x ∈ q, (x.d T η).bool = true) : Good P T η ρ w Z bk E nid ⟨dst, .binOp op t x y yt, ty, pos, aft, gd⟩ e := by
  unfold eBinOp at h
  split at h
  · rename_i hx hy; exact binInt_good hs hx hy h hq
  · rename_i hx hy
    split at h
    · rename_i hu; exact binBool_good hs hx hy hu h
    · cases h
  · rename_i hx hy; exact binAgg_good hs hx hy h
  · cases h
/-- EVERY OPERATION -/
theorem evalOp_good {K : List Con} (hs : Sees T η ρ w Z ev bk E p) (hF : F.ok T) (hK : ∀ c ∈ K, c.Ok P T) (hpc : pc.ok T η) (h : evalOp P F K pc ev bk nid o.op = some (e, q)) (hq : ∀ x ∈ q, (x.d T η).bool = true) (fresh : ∀ k, k < e.nw.length → p (nid + k) = false) :
    Good P T η ρ w Z bk E nid o e := by
  have f0 : 0 < e.nw.length → p nid = false := fun h => by have := fresh 0 h; rwa [Nat.add_zero] at this
  obtain ⟨dst, op, ty, pos, aft, gd⟩ := o
  simp only at h
  unfold evalOp at h
  split at h
  · obtain ⟨v, hv, h⟩ := bind_eq h
    obtain rfl := okv_eq h
    exact Good.val hs (v' := E _) (by simp [execOp]) (hs.ev _ _ hv)
  · obtain ⟨v, hv, h⟩ := bind_eq h
    obtain rfl := okv_eq h
    exact Good.val hs (v' := E _) (by simp [execOp]) (hs.ev _ _ hv)
  · exact ePick_good hs hpc h
  · refine eAlloc_good hs (f0 ?_) h
    unfold eAlloc at h
    simp only [Option.map_eq_some_iff, Prod.mk.injEq] at h
    obtain ⟨z, -, rfl, -⟩ := h; simp
  · refine eBox_good hs (f0 ?_) h
    unfold eBox at h
    split at h
    · simp only [Option.some.injEq, Prod.mk.injEq] at h; obtain ⟨rfl, -⟩ := h; simp
    · cases h
  · exact eBuild_good hs h
  · refine eBuildSlice_good hs (f0 ?_) h
    unfold eBuildSlice at h
    split at h
    · split at h
      · split at h
        · obtain ⟨l, -, h⟩ := bind_eq h
          simp only [Option.map_eq_some_iff, Prod.mk.injEq] at h
          obtain ⟨_, -, rfl, -⟩ := h; simp
        · cases h
      · cases h
    · cases h
  · exact eLoad_good hs h hq
  · exact eStore_good hs h hq
  · exact eNilCheck_good hs h
  · exact eBinOp_good hs h hq
  · exact eUnOp_good hs h
  · exact eConvert_good hs h
  · exact eFieldAddr_good hs h
  · exact eField_good hs h
  · exact eIndexAddr_good hs hpc h hq
  · exact eIndex_good hs hpc h hq
  · exact eSlice_good hs h hq
  · refine eMakeSlice_good hs (f0 ?_) h hq
    unfold eMakeSlice at h
    split at h
    · split at h
      · split at h
        · obtain ⟨l, -, h⟩ := bind_eq h
          split at h
          · simp only [Option.some.injEq, Prod.mk.injEq] at h; obtain ⟨rfl, -⟩ := h; simp
          · cases h
        · cases h
      · cases h
    · cases h
  · exact eExtract_good hs h
  · exact evalCall_good hs hF hK h hq fresh
  · cases h
end
end
end Go.Sz
