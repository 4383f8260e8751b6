/- The evaluator: what holds while operations come up, in whatever order. -/
import Derived.Test.YtjeenfnfkndgaaaZG
namespace Go.Sz
open Go Go.RowKit
noncomputable section
/-- what was there is as it was, but for some blocks -/
structure Keep (S : List Nat) (w w' : World) : Prop where
  os : w'.os = w.os
  tape : w'.tape = w.tape
  output : w'.output = w.output
  size : w.heap.size ≤ w'.heap.size
  block : ∀ k, k < w.heap.size → k ∉ S → w'.heap[k]? = w.heap[k]?
theorem Keep.refl (S : List Nat) (w : World) : Keep S w w := ⟨rfl, rfl, rfl, Nat.le_refl _, fun _ _ _ => rfl⟩
/-- a state as functions: slots, blocks, the blocks' numbers -/
structure FS where
  sl : Nat → Option SV
  bk : Nat → Option Blk
  p : Nat → Bool
/-- what is known of memory -/
structure Mem (T : Tab) (η : Env) (ρ : Plc) (w : World) (Z : Nat → Prop) (fb : BK) : Prop where
  bk : BKV T η ρ w Z fb
  own : ∀ id b, fb id = some b → b.mut = true → ∀ g, (ρ id).at g → g < w.heap.size ∧ ¬Z g
  inj : ∀ i j b c g, fb i = some b → fb j = some c → b.mut = true → c.mut = true → (ρ i).at g → (ρ j).at g → i = j
  zlt : ∀ g, Z g → g < w.heap.size
/-- the state is what lies in memory (S: blocks that were handed in; Z0: what may be read of what came in) -/
structure Rel (T : Tab) (η : Env) (S : List Nat) (Z0 : Nat → Prop) (w0 : World) (m : Nat) (fs : FS) (ρ : Plc) (Z : Nat → Prop) (a : Act) (w : World) : Prop where
  len : a.tmps.size = m
  nod : a.defers = []
  sl : ∀ t v, fs.sl t = some v → v.V T η ρ w Z (a.tmps.getD t undef)
  mem : Mem T η ρ w Z fs.bk
  keep : Keep S w0 w
  own : ∀ id b, fs.bk id = some b → b.mut = true → ∀ g, (ρ id).at g → w0.heap.size ≤ g ∨ g ∈ S
  z0 : ∀ g, Z0 g → Z g
  zn : ∀ g, Z g → Z0 g ∨ w0.heap.size ≤ g ∨ g ∈ S
  isl : ∀ t v, fs.sl t = some v → v.ids fs.p = true
  ibk : ∀ id b, fs.bk id = some b → b.ids fs.p = true ∧ fs.p id = true
/-- what an effect is -/
structure Did (T : Tab) (η : Env) (ρ : Plc) (w : World) (Z : Nat → Prop) (e : Eff) (base : Nat) (v' : Value) (w' : World) (ρ' : Plc) (Z' : Nat → Prop) : Prop where
  os : w'.os = w.os
  tape : w'.tape = w.tape
  output : w'.output = w.output
  size : w.heap.size ≤ w'.heap.size
  old : ∀ id, (id < base ∨ base + e.nw.length ≤ id) → ρ' id = ρ id
  val : e.v.V T η ρ' w' Z' v'
  other : ∀ g, g < w.heap.size → (∀ q ∈ e.wr, ¬(ρ q.1).at g) → w'.heap[g]? = w.heap[g]?
  wr : ∀ (id : Nat) (b : Blk), (id, some b) ∈ e.wr → b.V T η ρ' w' Z' (ρ id)
  nw : ∀ (k : Nat) (b : Blk), e.nw[k]? = some b → b.V T η ρ' w' Z' (ρ' (base + k))
  nwp : ∀ (k : Nat) (b : Blk), e.nw[k]? = some b → b.mut = true → ∀ g, (ρ' (base + k)).at g → g < w'.heap.size ∧ ¬Z' g ∧ (w.heap.size ≤ g ∨ ∃ id, (id, none) ∈ e.wr ∧ (ρ id).at g)
  nwi : ∀ (k l : Nat) (b c : Blk) (g : Nat), e.nw[k]? = some b → e.nw[l]? = some c → b.mut = true → c.mut = true → (ρ' (base + k)).at g → (ρ' (base + l)).at g → k = l
  zm : ∀ g, Z g → Z' g
  zlt : ∀ g, Z' g → g < w'.heap.size
  zn : ∀ g, Z' g → Z g ∨ w.heap.size ≤ g ∨ ∃ q ∈ e.wr, (∀ b, q.2 = some b → b.mut = false) ∧ (ρ q.1).at g
section
variable {P : Program} {T : Tab} {η : Env} {ρ ρ' : Plc} {S : List Nat} {w0 : World} {Z0 Z Z' : Nat → Prop} {m : Nat} {fs fs' : FS} {a : Act} {w w' : World}
theorem put_getD (a : Act) (d : Option Tmp) (v : Value) (t : Nat) : (a.put d v).tmps.getD t undef = if d = some t ∧ t < a.tmps.size then v else a.tmps.getD t undef := by
  cases d with
  | none => simp [Act.put]
  | some d =>
    simp only [Act.put, Option.some.injEq]
    by_cases h : d = t
    · subst h
      by_cases h2 : d < a.tmps.size
      · simp [h2]
      · simp [h2]
    · rw [if_neg (by rintro ⟨rfl, -⟩; exact h rfl)]
      rw [Array.getD_eq_getD_getElem?, Array.getD_eq_getD_getElem?, Array.getElem?_setIfInBounds_ne h]
theorem put_size (a : Act) (d : Option Tmp) (v : Value) : (a.put d v).tmps.size = a.tmps.size := by cases d <;> simp [Act.put]
theorem put_defers (a : Act) (d : Option Tmp) (v : Value) : (a.put d v).defers = a.defers := by cases d <;> rfl
theorem Sc.ids_mono {p q : Nat → Bool} (hq : ∀ id, p id = true → q id = true) {c : Sc} (h : c.ids p = true) : c.ids q = true := by cases c <;> simp only [Sc.ids] at h ⊢ <;> exact hq _ h
theorem idsL_mono {p q : Nat → Bool} (hq : ∀ id, p id = true → q id = true) {l : List Sc} (h : l.all (Sc.ids p) = true) : l.all (Sc.ids q) = true := by
  rw [List.all_eq_true] at *; exact fun c hc => Sc.ids_mono hq (h c hc)
theorem SV.ids_mono {p q : Nat → Bool} (hq : ∀ id, p id = true → q id = true) {v : SV} (h : v.ids p = true) : v.ids q = true := by
  cases v with
  | v x => exact idsL_mono hq h
  | tup l => simp only [SV.ids, List.all_eq_true] at *; exact fun c hc => idsL_mono hq (h c hc)
theorem Blk.ids_mono {p q : Nat → Bool} (hq : ∀ id, p id = true → q id = true) {v : Blk} (h : v.ids p = true) : v.ids q = true := by
  cases v with
  | box l => exact idsL_mono hq h
  | _ => rfl
/-- an effect in a slot -/
theorem Rel.step (h : Rel T η S Z0 w0 m fs ρ Z a w) {e : Eff} {base : Nat} {v' : Value} (d : Did T η ρ w Z e base v' w' ρ' Z') {dst : Option Tmp} (hd : ∀ t, dst = some t → t < m)
    (alive : ∀ q ∈ e.wr, ∃ b, fs.bk q.1 = some b ∧ b.mut = true) (nod : ∀ q ∈ e.wr, ∀ r ∈ e.wr, q.1 = r.1 → q = r) (fresh : ∀ k, k < e.nw.length → fs.p (base + k) = false)
    (hs : ∀ t u, fs'.sl t = some u → (dst = some t ∧ u = e.v) ∨ (dst ≠ some t ∧ fs.sl t = some u))
    (hb : ∀ id b, fs'.bk id = some b → (id, some b) ∈ e.wr ∨ (∃ k, id = base + k ∧ e.nw[k]? = some b) ∨ ((∀ q ∈ e.wr, q.1 ≠ id) ∧ fs.bk id = some b))
    (hp : ∀ id, fs.p id = true ∨ (base ≤ id ∧ id < base + e.nw.length) → fs'.p id = true)
    (hiv : e.v.ids fs'.p = true) (hiw : ∀ id b, (id, some b) ∈ e.wr → b.ids fs'.p = true) (hin : ∀ b ∈ e.nw, b.ids fs'.p = true) :
    Rel T η S Z0 w0 m fs' ρ' Z' (a.put dst v') w' := by
  have hρ : ∀ id, fs.p id = true → ρ' id = ρ id := fun id hi => d.old id (by
    rcases Nat.lt_or_ge id base with h1 | h1
    · exact .inl h1
    · rcases Nat.lt_or_ge id (base + e.nw.length) with h2 | h2
      · have := fresh (id - base) (by omega)
        rw [show base + (id - base) = id by omega] at this
        rw [this] at hi; cases hi
      · exact .inr h2)
  have hwr : ∀ q ∈ e.wr, ∀ g, (ρ q.1).at g → (g < w.heap.size ∧ ¬Z g) ∧ (w0.heap.size ≤ g ∨ g ∈ S) := fun q hq g hg => by
    obtain ⟨b, h1, h2⟩ := alive q hq
    exact ⟨h.mem.own _ _ h1 h2 g hg, h.own _ _ h1 h2 g hg⟩
  have hS : Same Z w w' := fun g hg => d.other g (h.mem.zlt g hg) fun q hq hat => (hwr q hq g hat).1.2 hg
  have hinj : ∀ q ∈ e.wr, ∀ id b g, fs.bk id = some b → b.mut = true → (ρ q.1).at g → (ρ id).at g → q.1 = id := fun q hq id b g h1 h2 h3 h4 => by
    obtain ⟨c, h5, h6⟩ := alive q hq
    exact h.mem.inj _ _ _ _ g h5 h1 h6 h2 h3 h4
  have key : ∀ id b, fs'.bk id = some b → b.mut = true → ∀ g, (ρ' id).at g → ((∃ c, fs.bk id = some c ∧ c.mut = true ∧ (ρ id).at g ∧ ∀ q ∈ e.wr, q.1 = id → q = (id, some b)) ∨ (∃ k, id = base + k ∧ e.nw[k]? = some b)) := by
    intro id b hb' hm g hg
    rcases hb id b hb' with h1 | h1 | ⟨h1, h2⟩
    · obtain ⟨c, h3, h4⟩ := alive _ h1
      have := (h.ibk _ _ h3).2
      exact .inl ⟨c, h3, h4, by rw [← hρ id this]; exact hg, fun q hq e' => nod q hq _ h1 e'⟩
    · exact .inr h1
    · have := (h.ibk _ _ h2).2
      exact .inl ⟨b, h2, hm, by rw [← hρ id this]; exact hg, fun q hq e' => absurd e' (h1 q hq)⟩
  have hnz : ∀ id b, fs'.bk id = some b → b.mut = true → ∀ g, (ρ' id).at g → g < w'.heap.size ∧ ¬Z' g := by
    intro id b hb' hm g hg
    rcases key id b hb' hm g hg with ⟨c, h1, h2, h3, h4⟩ | ⟨k, rfl, hk⟩
    · obtain ⟨g1, g2⟩ := h.mem.own _ _ h1 h2 g h3
      refine ⟨Nat.lt_of_lt_of_le g1 d.size, fun hz => ?_⟩
      rcases d.zn g hz with h5 | h5 | ⟨q, hq, h5, h6⟩
      · exact g2 h5
      · omega
      · have e1 := hinj q hq id c g h1 h2 h6 h3
        have := h4 q hq e1
        subst this
        rw [h5 b rfl] at hm; cases hm
    · exact ⟨(d.nwp k b hk hm g hg).1, (d.nwp k b hk hm g hg).2.1⟩
  refine ⟨by rw [put_size]; exact h.len, by rw [put_defers]; exact h.nod, fun t u hu => ?_, ⟨fun id b hb' => ?_, hnz, fun i j b c g hi hj hbm hcm hgi hgj => ?_, d.zlt⟩,
    ⟨d.os.trans h.keep.os, d.tape.trans h.keep.tape, d.output.trans h.keep.output, Nat.le_trans h.keep.size d.size, fun k hk hkS => ?_⟩, fun id b hb' hm g hg => ?_, fun g hg => d.zm g (h.z0 g hg), fun g hg => ?_, fun t u hu => ?_, fun id b hb' => ?_⟩
  · rw [put_getD]
    rcases hs t u hu with ⟨rfl, rfl⟩ | ⟨hne, hu'⟩
    · rw [if_pos ⟨rfl, by rw [h.len]; exact hd t rfl⟩]; exact d.val
    · rw [if_neg (fun hh => hne hh.1)]; exact (h.sl t u hu').mono (h.isl t u hu') hρ hS d.zm
  · rcases hb id b hb' with h1 | ⟨k, rfl, hk⟩ | ⟨h1, h2⟩
    · obtain ⟨c, h3, -⟩ := alive _ h1
      rw [hρ id (h.ibk _ _ h3).2]
      exact d.wr id b h1
    · exact d.nw k b hk
    · rw [hρ id (h.ibk _ _ h2).2]
      refine (h.mem.bk id b h2).mono (h.ibk _ _ h2).1 hρ hS d.zm d.size fun hm hn => d.other _ (h.mem.own _ _ h2 hm _ ⟨hn, rfl⟩).1 fun q hq hat => h1 q hq (hinj q hq id b _ h2 hm hat ⟨hn, rfl⟩)
  · rcases key i b hi hbm g hgi with ⟨c1, a1, a2, a3, a4⟩ | ⟨k, rfl, hk⟩
    · rcases key j c hj hcm g hgj with ⟨c2, b1, b2, b3, b4⟩ | ⟨l, rfl, hl⟩
      · exact h.mem.inj _ _ _ _ g a1 b1 a2 b2 a3 b3
      · rcases (d.nwp l c hl hcm g hgj).2.2 with h5 | ⟨id, h5, h6⟩
        · have := (h.mem.own _ _ a1 a2 g a3).1; omega
        · have e1 := hinj _ h5 i c1 g a1 a2 h6 a3
          have := a4 _ h5 e1
          cases this
    · rcases key j c hj hcm g hgj with ⟨c2, b1, b2, b3, b4⟩ | ⟨l, rfl, hl⟩
      · rcases (d.nwp k b hk hbm g hgi).2.2 with h5 | ⟨id, h5, h6⟩
        · have := (h.mem.own _ _ b1 b2 g b3).1; omega
        · have e1 := hinj _ h5 j c2 g b1 b2 h6 b3
          have := b4 _ h5 e1
          cases this
      · rw [d.nwi k l b c g hk hl hbm hcm hgi hgj]
  · refine (d.other k (Nat.lt_of_lt_of_le hk h.keep.size) fun q hq hat => ?_).trans (h.keep.block k hk hkS)
    rcases (hwr q hq k hat).2 with h1 | h1
    · omega
    · exact hkS h1
  · rcases key id b hb' hm g hg with ⟨c, h1, h2, h3, -⟩ | ⟨k, rfl, hk⟩
    · exact h.own _ _ h1 h2 g h3
    · rcases (d.nwp k b hk hm g hg).2.2 with h5 | ⟨i, h5, h6⟩
      · exact .inl (Nat.le_trans h.keep.size h5)
      · exact (hwr _ h5 g h6).2
  · rcases d.zn g hg with h1 | h1 | ⟨q, hq, -, h2⟩
    · exact h.zn g h1
    · exact .inr (.inl (Nat.le_trans h.keep.size h1))
    · exact .inr (hwr q hq g h2).2
  · rcases hs t u hu with ⟨-, rfl⟩ | ⟨-, hu'⟩
    · exact hiv
    · exact SV.ids_mono (fun id hi => hp id (.inl hi)) (h.isl t u hu')
  · rcases hb id b hb' with h1 | ⟨k, rfl, hk⟩ | ⟨h1, h2⟩
    · obtain ⟨c, h3, -⟩ := alive _ h1
      exact ⟨hiw id b h1, hp id (.inl (h.ibk _ _ h3).2)⟩
    · exact ⟨hin b (List.mem_of_getElem? hk), hp _ (.inr ⟨by omega, by have := (List.getElem?_eq_some_iff.1 hk).1; omega⟩)⟩
    · exact ⟨Blk.ids_mono (fun id hi => hp id (.inl hi)) (h.ibk _ _ h2).1, hp id (.inl (h.ibk _ _ h2).2)⟩
/-- what an operation does, as a relation -/
def Does (P : Program) (o : Oper) (ev : Operand → Value) (w : World) (K : Value → World → Prop) : Prop := match (execOp ev o).run P w with
  | .ok (.value v) w' => K v w'
  | .ok .skip w' => K undef w'
  | .ok (.enter f args) w' => Calls P f args w' fun e w'' => ∃ v, e = .returned v ∧ K v w''
  | _ => False
theorem wp_of_does {o : Oper} {next : Act → World → Prop} {Q : Exit → Act → World → Prop} {K : Value → World → Prop} (h : Does P o a.eval w K) (hK : ∀ v w', K v w' → next (a.put o.dst v) w') : o.wp P a w next Q := by
  unfold Does at h
  unfold Oper.wp
  generalize (execOp a.eval o).run P w = r at h ⊢
  split at h
  · exact hK _ _ h
  · exact hK _ _ h
  · refine h.mono ?_
    rintro e w'' ⟨v, rfl, hv⟩
    exact hK _ _ hv
  · exact h.elim
/-- an effect that is a value alone -/
theorem Did.pure {v : SV} {v' : Value} {base : Nat} (hz : ∀ g, Z g → g < w.heap.size) (hv : v.V T η ρ w Z v') : Did T η ρ w Z { v } base v' w ρ Z :=
  ⟨rfl, rfl, rfl, Nat.le_refl _, fun _ _ => rfl, hv, fun _ _ _ => rfl, (fun _ _ h => nomatch h), (fun _ _ h => nomatch h), (fun _ _ h => nomatch h), (fun _ _ _ _ _ h => nomatch h), fun _ h => h, hz, fun _ h => .inl h⟩
end
end
end Go.Sz
