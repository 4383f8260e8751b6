/- The evaluator speaks true of operations, first part. -/
import Derived.Test.YtjeenfnfkndgaaaZH
namespace Go.Sz
open Go Go.RowKit
noncomputable section
/-- element by element -/
inductive All2 {α β : Type} (R : α → β → Prop) : List α → List β → Prop
  | nil : All2 R [] []
  | cons {a : α} {b : β} {l : List α} {m : List β} : R a b → All2 R l m → All2 R (a :: l) (b :: m)
/-- what an operation finds -/
structure Sees (T : Tab) (η : Env) (ρ : Plc) (w : World) (Z : Nat → Prop) (sv : Operand → Option SV) (fb : BK) (E : Operand → Value) (p : Nat → Bool) : Prop where
  mem : Mem T η ρ w Z fb
  ev : ∀ x v, sv x = some v → v.V T η ρ w Z (E x)
  evp : ∀ x v, sv x = some v → v.ids p = true
  bkp : ∀ id b, fb id = some b → b.ids p = true ∧ p id = true
  fn : ∀ f, E (.func f) = .func (.func f) #[] #[]
/-- an operation's effect is what it does -/
def Good (P : Program) (T : Tab) (η : Env) (ρ : Plc) (w : World) (Z : Nat → Prop) (fb : BK) (E : Operand → Value) (nid : Nat) (o : Oper) (e : Eff) : Prop :=
  Does P o E w (fun v' w' => ∃ ρ' Z', Did T η ρ w Z e nid v' w' ρ' Z') ∧ ∀ q ∈ e.wr, ∃ b, fb q.1 = some b ∧ b.mut = true
section
variable {P : Program} {T : Tab} {η : Env} {ρ ρ' : Plc} {w w' : World} {Z Z' : Nat → Prop} {ev : Operand → Option SV} {bk : BK} {E : Operand → Value} {p : Nat → Bool} {nid : Nat} {o : Oper} {e : Eff} {q : List X} {pc : PC}
theorem bind_eq {α β : Type} {x : Option α} {f : α → Option β} {b : β} (h : x.bind f = some b) : ∃ a, x = some a ∧ f a = some b := by
  cases x with
  | none => cases h
  | some a => exact ⟨a, rfl, h⟩
theorem okv_eq {v : SV} (h : okv v = some (e, q)) : e = { v } := by unfold okv at h; simp at h; exact h.1.symm
theorem Good.val (hs : Sees T η ρ w Z ev bk E p) {v : SV} {v' : Value} (hr : (execOp E o).run P w = .ok (.value v') w) (hv : v.V T η ρ w Z v') : Good P T η ρ w Z bk E nid o { v } :=
  ⟨by unfold Does; rw [hr]; exact ⟨ρ, Z, Did.pure hs.mem.zlt hv⟩, fun q hq => nomatch hq⟩
theorem Sees.one (hs : Sees T η ρ w Z ev bk E p) {x : Operand} {c : Sc} (h : one? (ev x) = some c) : c.V T η ρ w Z (E x) ∧ c.ids p = true := by
  unfold one? at h
  split at h
  · rename_i c' hx
    simp at h; subst h
    exact ⟨hs.ev _ _ hx, by simpa [SV.ids, S1.ids, S1.cells] using hs.evp _ _ hx⟩
  · cases h
theorem VT.len : ∀ {l : List S1} {vs : List Value}, VT T η ρ w Z l vs → vs.length = l.length
  | [], _, h => by simp only [VT] at h; subst h; rfl
  | c :: l, _, h => by obtain ⟨v, us, rfl, -, h2⟩ := h; simp [VT.len h2]
/- the model's own functions -/
theorem run_size {t : TypeId} {n : Nat} (h : tSize P t = some n) (w : World) : (sizeOf t).run P w = .ok n w := by
  unfold tSize at h
  cases hi : P.info? t with
  | none => simp [hi] at h
  | some i => simp [hi] at h; subst h; simp [sizeOf, typeInfo, hi]
theorem run_agg {t : TypeId} {b : Bool} (h : tAgg P t = some b) (w : World) : (isAgg t).run P w = .ok b w := by
  unfold tAgg at h
  unfold isAgg
  cases hu : P.underlying t with
  | none => simp [hu] at h
  | some d =>
    rw [Sem.run_bind, run_underlying hu w]
    rw [hu] at h
    cases d <;> simp_all
theorem ofValue_V {v : Value} {c : Sc} (h : ofValue v = some c) : c.V T η ρ w Z v := by
  unfold ofValue at h
  split at h <;> simp at h <;> subst h <;> simp [Sc.V, X.d, R]
theorem ofValue_ids {v : Value} {c : Sc} (h : ofValue v = some c) : c.ids p = true := by
  unfold ofValue at h
  split at h <;> simp at h <;> subst h <;> rfl
theorem ofValues_V : ∀ {l : List Value} {cs : List Sc}, ofValues l = some cs → VL T η ρ w Z cs l ∧ cs.all (Sc.ids p) = true
  | [], cs, h => by simp [ofValues] at h; subst h; exact ⟨rfl, rfl⟩
  | v :: l, cs, h => by
    simp only [ofValues] at h
    split at h
    · rename_i c cs' h1 h2
      simp at h; subst h
      have := ofValues_V h2
      exact ⟨⟨v, l, rfl, ofValue_V h1, this.1⟩, by simp only [List.all_cons, ofValue_ids h1, this.2, Bool.and_self]⟩
    · cases h
theorem ofConst_V {v : Value} {x : SV} (h : ofConst v = some x) : x.V T η ρ w Z v ∧ x.ids p = true := by
  unfold ofConst at h
  split at h
  · simp only [Option.map_eq_some_iff] at h
    obtain ⟨l, hl, rfl⟩ := h
    exact ⟨⟨_, rfl, (ofValues_V (p := p) hl).1⟩, (ofValues_V (T := T) (η := η) (ρ := ρ) (w := w) (Z := Z) hl).2⟩
  · simp only [Option.map_eq_some_iff] at h
    obtain ⟨c, hc, rfl⟩ := h
    exact ⟨ofValue_V hc, by simp [SV.ids, S1.ids, S1.cells, ofValue_ids hc]⟩
theorem run_zero {t : TypeId} {z : S1} (h : tZero P t = some z) (w : World) : ∃ v, (zeroValue t).run P w = .ok v w ∧ (∀ (T : Tab) η ρ w Z, z.V T η ρ w Z v) ∧ ∀ p, z.ids p = true := by
  unfold tZero at h
  cases hi : P.info? t with
  | none => simp [hi] at h
  | some i =>
    rw [hi] at h
    cases hz : i.zero with
    | none => simp [hz] at h
    | some v =>
      simp only [Option.bind_some, hz] at h
      refine ⟨v, by simp [zeroValue, typeInfo, hi, hz], ?_⟩
      split at h
      · rename_i cs hcs
        simp only [Option.map_eq_some_iff] at h
        obtain ⟨l, hl, rfl⟩ := h
        simp at hcs; subst hcs
        exact ⟨fun T η ρ w Z => ⟨_, rfl, (ofValues_V (p := fun _ => true) hl).1⟩, fun p => (ofValues_V (p := p) (T := fun _ d => d) (η := ⟨fun _ => .nil, fun _ => ⟨.nilFunc, rfl⟩⟩) (ρ := fun _ => default) (w := w) (Z := fun _ => True) hl).2⟩
      · rename_i v' _ hv'
        simp at hv'; subst hv'
        simp only [Option.map_eq_some_iff] at h
        obtain ⟨c, hc, rfl⟩ := h
        exact ⟨fun T η ρ w Z => ofValue_V hc, fun p => by simp [S1.ids, S1.cells, ofValue_ids hc]⟩
      · rename_i hn; simp at hn
theorem run_part {t : TypeId} {l : List Sc} {off : Nat} {x : S1} {vs : List Value} (h : partS P t l off = some x) (hv : VL T η ρ w Z l vs) (w1 : World) : ∃ v, (part t vs.toArray off).run P w1 = .ok v w1 ∧ x.V T η ρ w Z v := by
  unfold partS at h
  split at h
  · rename_i ha
    split at h
    · rename_i n hn
      split at h
      · simp at h; subst h
        refine ⟨.agg ((vs.drop off).take n).toArray, ?_, _, rfl, VL.take n (VL.drop off hv)⟩
        simp only [part, Sem.run_bind, run_agg ha w1, Result.andThen_ok, if_true, run_size hn w1, Sem.run_pure]
        congr 2
        apply Array.ext'
        simp
      · cases h
    · cases h
  · rename_i ha
    simp only [Option.map_eq_some_iff] at h
    obtain ⟨c, hc, rfl⟩ := h
    obtain ⟨v, h1, h2⟩ := hv.get hc
    exact ⟨v, by simp [part, run_agg ha w1, h1], h2⟩
  · cases h
theorem foldl_fill : ∀ (vs : List Value) (i : Nat) (l : List Value) (off : Nat), off + i + vs.length ≤ l.length →
    (vs.zipIdx i).foldl (fun (cs : Array Value) (q : Value × Nat) => cs.setIfInBounds (off + q.2) q.1) l.toArray = (l.take (off + i) ++ vs ++ l.drop (off + i + vs.length)).toArray
  | [], i, l, off, _ => by simp
  | v :: vs, i, l, off, h => by
    simp only [List.length_cons] at h
    rw [List.zipIdx_cons, List.foldl_cons]
    simp only [List.setIfInBounds_toArray]
    rw [foldl_fill vs (i + 1) (l.set (off + i) v) off (by simp; omega)]
    congr 1
    have h1 : (l.set (off + i) v).take (off + (i + 1)) = l.take (off + i) ++ [v] := by
      rw [show off + (i + 1) = (off + i) + 1 by omega, List.take_succ_eq_append_getElem (by simp; omega)]
      simp only [List.take_set, List.getElem_set_self]
      rw [List.set_eq_of_length_le (by simp; omega)]
    have h2 : (l.set (off + i) v).drop (off + (i + 1) + vs.length) = l.drop (off + i + (vs.length + 1)) := by
      rw [List.drop_set_of_lt (by omega)]
      congr 1; omega
    rw [h1, h2]
    simp
/-- parts, evaluated -/
theorem evParts_V (hs : Sees T η ρ w Z ev bk E p) : ∀ {ps : List (Nat × Operand)} {qs : List (Nat × SV)}, evParts ev ps = some qs → All2 (fun (x : Nat × Operand) (y : Nat × SV) => x.1 = y.1 ∧ y.2.V T η ρ w Z (E x.2) ∧ y.2.ids p = true) ps qs
  | [], qs, h => by simp [evParts] at h; subst h; exact .nil
  | (i, a) :: ps, qs, h => by
    simp only [evParts] at h
    split at h
    · rename_i v r h1 h2
      simp at h; subst h
      exact .cons ⟨rfl, hs.ev _ _ h1, hs.evp _ _ h1⟩ (evParts_V hs h2)
    · cases h
theorem evs_V (hs : Sees T η ρ w Z ev bk E p) : ∀ {as : List Operand} {vs : List SV}, evs ev as = some vs → All2 (fun (v : SV) (u : Value) => v.V T η ρ w Z u ∧ v.ids p = true) vs (as.map E)
  | [], vs, h => by simp [evs] at h; subst h; exact .nil
  | a :: as, vs, h => by
    simp only [evs] at h
    split at h
    · rename_i v r h1 h2
      simp at h; subst h
      exact .cons ⟨hs.ev _ _ h1, hs.evp _ _ h1⟩ (evs_V hs h2)
    · cases h
theorem fill_V {place : Nat → Option (Nat × Nat)} : ∀ {ps : List (Nat × SV)} {qs : List (Nat × Operand)} {cells l : List Sc} {vs : List Value}, fillS place cells ps = some l → VL T η ρ w Z cells vs → cells.all (Sc.ids p) = true →
    All2 (fun (x : Nat × Operand) (y : Nat × SV) => x.1 = y.1 ∧ y.2.V T η ρ w Z (E x.2) ∧ y.2.ids p = true) qs ps →
    ∃ us, Instr.fill place vs.toArray (qs.map fun q => (q.1, E q.2)) = some us.toArray ∧ VL T η ρ w Z l us ∧ l.all (Sc.ids p) = true ∧ l.length = cells.length
  | [], qs, cells, l, vs, h, hv, hi, hq => by cases hq; simp [fillS] at h; subst h; exact ⟨vs, by simp [Instr.fill], hv, hi, rfl⟩
  | (i, .tup _) :: ps, qs, cells, l, vs, h, hv, hi, hq => by simp [fillS] at h
  | (i, .v x) :: ps, qs, cells, l, vs, h, hv, hi, hq => by
    cases hq with
    | cons h0 hr =>
      rename_i q0 qs
      obtain ⟨i0, a0⟩ := q0
      obtain ⟨rfl, h1, h2⟩ := h0
      simp only [fillS] at h
      split at h
      · rename_i off size hp
        split at h
        · rename_i hc
          obtain ⟨cs, g1, g2⟩ := S1.V.cells h1
          have hl := g2.len
          have hvl := hv.len
          have hv' : VL T η ρ w Z (cells.take off ++ x.cells ++ cells.drop (off + size)) (vs.take off ++ cs ++ vs.drop (off + size)) := VL.append (VL.append (VL.take off hv) g2) (VL.drop (off + size) hv)
          have hi' : (cells.take off ++ x.cells ++ cells.drop (off + size)).all (Sc.ids p) = true := by
            simp only [List.all_append, Bool.and_eq_true]
            rw [List.all_eq_true] at hi
            refine ⟨⟨List.all_eq_true.2 fun c hc => hi c (List.mem_of_mem_take hc), h2⟩, List.all_eq_true.2 fun c hc => hi c (List.mem_of_mem_drop hc)⟩
          obtain ⟨us, r1, r2, r3, r4⟩ := fill_V h hv' hi' hr
          refine ⟨us, ?_, r2, r3, by rw [r4]; simp; have := hc.1; have := hc.2; omega⟩
          simp only [List.map_cons, Instr.fill, hp]
          have hsz : (E a0).cells.size = size := by rw [g1]; simp [hl, hc.1]
          rw [if_neg (by simp [hsz, hvl]; have := hc.2; omega)]
          rw [← r1]
          congr 1
          rw [g1]
          have := foldl_fill cs 0 vs off (by rw [hl, hvl]; have := hc.1; have := hc.2; omega)
          simp only [Nat.add_zero] at this
          rw [hl, hc.1] at this
          simp only [← Array.foldl_toList, Array.toList_zipIdx]
          rw [this]
        · cases h
      · cases h
theorem run_placesS : ∀ {fs : List Field} {pl : List (Nat × Nat)}, places P fs = some pl → ∀ w, (fs.mapM fun (f : Field) => do pure (f.offset, ← sizeOf f.type)).run P w = .ok pl w
  | [], pl, h, w => by simp [places] at h; subst h; simp
  | f :: fs, pl, h, w => by
    simp only [places] at h
    split at h
    · rename_i n r h1 h2
      simp at h; subst h
      have := run_placesS h2 w
      rw [List.mapM_cons, Sem.run_bind, Sem.run_bind, run_size h1 w, Result.andThen_ok, Sem.run_pure, Result.andThen_ok, Sem.run_bind, this, Result.andThen_ok]
      simp
    · cases h
/- a new block -/
def newPl (ρ : Plc) (nid b cap len : Nat) : Plc := fun id => if id = nid then ⟨b, 0, len, cap, false⟩ else ρ id
theorem newPl_old {nid b cap len : Nat} (hn : p nid = false) : ∀ id, p id = true → newPl ρ nid b cap len id = ρ id := fun id hi => if_neg fun e => by subst e; rw [hn] at hi; cases hi
theorem newPl_self (ρ : Plc) (nid b cap len : Nat) : newPl ρ nid b cap len nid = ⟨b, 0, len, cap, false⟩ := if_pos rfl
/-- rows that are written no more -/
def Rows (fb : BK) (ws : Ws) : Prop := ∀ q ∈ ws, ∃ t e x, fb q.1 = some (.row t e x) ∧ q.2 = some (.froz e x)
theorem Rows.join {a b : Ws} (ha : Rows bk a) (hb : Rows bk b) : Rows bk (joinW a b) := fun q hq => by
  rcases List.mem_append.1 hq with h | h
  · exact ha q h
  · exact hb q (List.mem_filter.1 h).1
theorem toX_rows {a : CK} {c : Sc} {x : X} {ws : Ws} (h : c.toX bk a = some (x, ws)) : Rows bk ws := by
  unfold Sc.toX at h
  split at h
  · split at h <;> simp at h; obtain ⟨-, rfl⟩ := h; exact fun q hq => nomatch hq
  · simp at h; obtain ⟨-, rfl⟩ := h; exact fun q hq => nomatch hq
  · simp at h; obtain ⟨-, rfl⟩ := h; exact fun q hq => nomatch hq
  · split at h <;> simp at h; obtain ⟨-, rfl⟩ := h; exact fun q hq => nomatch hq
  · simp at h; obtain ⟨-, rfl⟩ := h; exact fun q hq => nomatch hq
  · split at h
    · rename_i t e' y hb
      split at h <;> simp at h
      obtain ⟨-, rfl⟩ := h
      intro q hq
      rw [List.mem_singleton] at hq; subst hq
      exact ⟨t, e', y, hb, rfl⟩
    · split at h <;> simp at h; obtain ⟨-, rfl⟩ := h; exact fun q hq => nomatch hq
    · cases h
  · cases h
theorem packL_rows : ∀ {ks : CK} {l : List Sc} {x : X} {ws : Ws}, packL bk ks l = some (x, ws) → Rows bk ws := by
  intro ks
  induction ks with
  | nil => intro l x ws h; cases l <;> simp [packL] at h; obtain ⟨-, rfl⟩ := h; exact fun q hq => nomatch hq
  | cons a b iha ihb =>
    intro l x ws h
    cases l with
    | nil => simp [packL] at h
    | cons c l =>
      simp only [packL] at h
      split at h
      · rename_i x1 w1 y w2 h1 h2
        simp at h; obtain ⟨rfl, rfl⟩ := h
        exact Rows.join (toX_rows h1) (ihb h2)
      · cases h
  | _ => intro l x ws h; cases l <;> simp [packL] at h
theorem packE_rows {e : CK} {n : Nat} : ∀ {m : Nat} {l : List Sc} {x : X} {ws : Ws}, packE bk e n m l = some (x, ws) → Rows bk ws
  | 0, l, x, ws, h => by simp [packE] at h; obtain ⟨-, rfl⟩ := h; exact fun q hq => nomatch hq
  | m + 1, l, x, ws, h => by
    simp only [packE] at h
    split at h
    · rename_i x1 w1 y w2 h1 h2
      simp at h; obtain ⟨rfl, rfl⟩ := h
      exact Rows.join (packL_rows h1) (packE_rows h2)
    · cases h
theorem sliceX_rows {c : Sc} {e : CK} {x : X} {ws : Ws} (h : sliceX bk c = some (e, x, ws)) : Rows bk ws := by
  unfold sliceX at h
  split at h
  · simp at h; obtain ⟨-, -, rfl⟩ := h; exact fun q hq => nomatch hq
  · split at h
    · rename_i t e' y hb
      simp at h; obtain ⟨rfl, rfl, rfl⟩ := h
      intro q hq
      rw [List.mem_singleton] at hq; subst hq
      exact ⟨t, e', y, hb, rfl⟩
    · simp at h; obtain ⟨-, -, rfl⟩ := h; exact fun q hq => nomatch hq
    · cases h
  · cases h
theorem Rows.alive {ws : Ws} (h : Rows bk ws) : ∀ q ∈ ws, ∃ b, bk q.1 = some b ∧ b.mut = true := fun q hq => by
  obtain ⟨t, e, x, h1, -⟩ := h q hq
  exact ⟨_, h1, rfl⟩
/-- what may be read when rows are written no more -/
def frzZ (ρ : Plc) (Z : Nat → Prop) (ws : Ws) : Nat → Prop := fun g => Z g ∨ ∃ q ∈ ws, (ρ q.1).at g
theorem frz_kept (ρ : Plc) (Z : Nat → Prop) (ws : Ws) : Kept ρ (frzZ ρ Z ws) ws := fun q hq _g hg => .inr ⟨q, hq, hg⟩
theorem frz_nil (ρ : Plc) (Z : Nat → Prop) : frzZ ρ Z [] = Z := by funext g; simp [frzZ]
theorem frz_lt (hs : Sees T η ρ w Z ev bk E p) {ws : Ws} (h : Rows bk ws) : ∀ g, frzZ ρ Z ws g → g < w.heap.size := fun g hg => by
  rcases hg with hg | ⟨q, hq, hat⟩
  · exact hs.mem.zlt g hg
  · obtain ⟨t, e, x, h1, -⟩ := h q hq
    exact (hs.mem.own _ _ h1 rfl g hat).1
/-- rows are written no more; one block may be made -/
theorem Did.frz (hs : Sees T η ρ w Z ev bk E p) {ws : Ws} (hr : Rows bk ws) {v : SV} {v' : Value} (hv : v.V T η ρ w (frzZ ρ Z ws) v') : Did T η ρ w Z { v, wr := ws } nid v' w ρ (frzZ ρ Z ws) where
  os := rfl
  tape := rfl
  output := rfl
  size := Nat.le_refl _
  old := fun _ _ => rfl
  val := hv
  other := fun _ _ _ => rfl
  wr := fun id b hm => by
    obtain ⟨t, e, x, h1, h2⟩ := hr _ hm
    simp at h2; subst h2
    exact row_R (hs.mem.bk _ _ h1) (fun g hg => .inl hg) fun g hg => .inr ⟨_, hm, hg⟩
  nw := fun _ _ h => nomatch h
  nwp := fun _ _ h => nomatch h
  nwi := fun _ _ _ _ _ h => nomatch h
  zm := fun _ h => .inl h
  zlt := frz_lt hs hr
  zn := fun g hg => by
    rcases hg with hg | ⟨q, hq, hat⟩
    · exact .inl hg
    · refine .inr (.inr ⟨q, hq, fun b hb => ?_, hat⟩)
      obtain ⟨t, e, x, -, h2⟩ := hr q hq
      rw [h2] at hb; simp at hb; subst hb; rfl
theorem alloc_heap (w : World) (o : Obj) {g : Nat} (h : g < w.heap.size) : (w.alloc o).heap[g]? = w.heap[g]? := by first | exact heap_alloc_old w o h | exact heap_alloc_old w o g h
theorem Did.new (hs : Sees T η ρ w Z ev bk E p) {ws : Ws} (hr : Rows bk ws) {v : SV} {b : Blk} {ob : Obj} {v' : Value} {cap len : Nat} (hn : p nid = false)
    (hv : v.V T η (newPl ρ nid w.heap.size cap len) (w.alloc ob) (frzZ ρ Z ws) v') (hb : b.V T η (newPl ρ nid w.heap.size cap len) (w.alloc ob) (frzZ ρ Z ws) ⟨w.heap.size, 0, len, cap, false⟩) :
    Did T η ρ w Z { v, wr := ws, nw := [b] } nid v' (w.alloc ob) (newPl ρ nid w.heap.size cap len) (frzZ ρ Z ws) where
  os := rfl
  tape := rfl
  output := rfl
  size := by simp
  old := fun id hi => if_neg fun e => by subst e; simp at hi; omega
  val := hv
  other := fun g hg _ => alloc_heap w ob hg
  wr := fun id b' hm => by
    obtain ⟨t, e, x, h1, h2⟩ := hr _ hm
    simp at h2; subst h2
    have := row_R (Z' := frzZ ρ Z ws) (hs.mem.bk _ _ h1) (fun g hg => .inl hg) fun g hg => .inr ⟨_, hm, hg⟩
    exact R.mono (fun g hg => alloc_heap w ob (frz_lt hs hr g hg)) (fun _ h => h) this
  nw := fun k b' hk => by
    cases k with
    | zero => simp at hk; subst hk; rw [Nat.add_zero, newPl_self]; exact hb
    | succ k => simp at hk
  nwp := fun k b' hk _ g hg => by
    cases k with
    | zero =>
      rw [Nat.add_zero, newPl_self] at hg
      obtain ⟨-, rfl⟩ := hg
      exact ⟨by simp, fun hz => absurd (frz_lt hs hr _ hz) (Nat.lt_irrefl _), .inl (Nat.le_refl _)⟩
    | succ k => simp at hk
  nwi := fun k l b' c g hk hl _ _ _ _ => by
    have h1 := (List.getElem?_eq_some_iff.1 hk).1
    have h2 := (List.getElem?_eq_some_iff.1 hl).1
    simp at h1 h2; omega
  zm := fun _ h => .inl h
  zlt := fun g hg => Nat.lt_of_lt_of_le (frz_lt hs hr g hg) (by simp)
  zn := fun g hg => by
    rcases hg with hg | ⟨q, hq, hat⟩
    · exact .inl hg
    · refine .inr (.inr ⟨q, hq, fun b hb => ?_, hat⟩)
      obtain ⟨t, e, x, -, h2⟩ := hr q hq
      rw [h2] at hb; simp at hb; subst hb; rfl
/-- a new box -/
theorem box_V {cs : List Sc} {vs : List Value} {t : TypeId} (hv : VL T η ρ w Z cs vs) (hi : cs.all (Sc.ids p) = true) (hn : p nid = false) (hz : ∀ g, Z g → g < w.heap.size) {cap len : Nat} :
    (Blk.box cs).V T η (newPl ρ nid w.heap.size cap len) (w.alloc (.cells vs.toArray t)) Z ⟨w.heap.size, 0, len, cap, false⟩ := by
  refine ⟨rfl, by simp, vs, VL.mono (newPl_old hn) (fun g hg => alloc_heap w _ (hz g hg)) (fun _ h => h) hv hi, fun j v hj => ?_⟩
  simp [go_sem, hj]
theorem range_mod (l : List Value) (n : Nat) (hl : l.length = n) (hn : 0 < n) : ∀ len : Nat, (List.range (len * n)).map (fun i => l[i % n]!) = (List.replicate len l).flatten
  | 0 => by simp
  | len + 1 => by
    rw [Nat.succ_mul, Nat.add_comm, List.range_add, List.map_append, List.replicate_succ, List.flatten_cons, ← range_mod l n hl hn len]
    congr 1
    · apply List.ext_getElem
      · simp [hl]
      · intro i h1 h2
        simp at h1
        simp [Nat.mod_eq_of_lt h1, h2]
    · simp
theorem VL.rep {cs : List Sc} {vs : List Value} (h : VL T η ρ w Z cs vs) : ∀ n : Nat, VL T η ρ w Z (List.replicate n cs).flatten (List.replicate n vs).flatten
  | 0 => rfl
  | n + 1 => by simp only [List.replicate_succ, List.flatten_cons]; exact VL.append h (VL.rep h n)
/-- a new row -/
theorem row_V {el : TypeId} {e : CK} {x : X} {vs : List Value} {n len : Nat} (hlen : (x.d T η).len = len) (hn : e.size = n) (h0 : 0 < n) (hvs : vs.length = len * n) (hmax : len ≤ maxLen) (hR : ∀ k, k < len → R w Z e ((x.d T η).get k) ((vs.drop (k * n)).take n) ∧ ((vs.drop (k * n)).take n).length = e.size) (hz : ∀ g, Z g → g < w.heap.size) {ρ' : Plc} :
    (Blk.row el e x).V T η ρ' (w.alloc (.cells vs.toArray el)) Z ⟨w.heap.size, 0, len, len, false⟩ := by
  refine ⟨rfl, by omega, vs, ⟨by rw [hvs, hlen, hn], .inr ⟨w.heap.size, len, vs.toArray, by simp [Pl.hdr, hlen], Nat.zero_le _, heap_alloc_new w _, by omega, hmax, by simp [hvs, hn], ?_⟩⟩, fun m hm => ?_⟩
  · rw [hlen, hn, ← hvs]; simp
  · rw [hlen] at hm
    obtain ⟨g1, g2⟩ := hR m hm
    refine ⟨_, g2, R.mono (fun g hg => alloc_heap w _ (hz g hg)) (fun _ h => h) g1, fun j u hj => ?_⟩
    rw [List.getElem?_take] at hj
    split at hj
    · rw [hn]; simpa using hj
    · cases hj
end
end
end Go.Sz
