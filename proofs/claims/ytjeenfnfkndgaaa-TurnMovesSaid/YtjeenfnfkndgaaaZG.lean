/- The evaluator: how values lie in memory. -/
import Derived.Test.YtjeenfnfkndgaaaZF
import Derived.Laws.Tables
import Derived.Laws.IdiomCopy
import Derived.Laws.StructEq
import Derived.BigQuiet
import Derived.Laws.AppendOwn
namespace Go.Sz
open Go Go.RowKit
noncomputable section
/-- where a block lies: its number, where in it; a row's length and capacity; or nil -/
structure Pl where
  b : Nat
  off : Nat
  len : Nat
  cap : Nat
  nil : Bool
  deriving Inhabited
def Pl.hdr (p : Pl) : Value := if p.nil then .slice none 0 0 else .slice (some ⟨p.b, p.off, none⟩) p.len p.cap
/-- it lies in that block -/
def Pl.at (p : Pl) (b : Nat) : Prop := p.nil = false ∧ p.b = b
abbrev Plc := Nat → Pl
/-- values in cells one after the other -/
def At (w : World) (b o : Nat) (vs : List Value) : Prop := ∀ (j : Nat) v, vs[j]? = some v → w.cell? ⟨b, o + j, none⟩ = some v
/-- cells of such kinds hold a value; all that they point to lies in blocks Z -/
def R (w : World) (Z : Nat → Prop) : CK → D → List Value → Prop
  | .int k, d, vs => vs = [.int k d.int]
  | .bool, d, vs => vs = [.bool d.bool]
  | .str, d, vs => ∃ s, vs = [.string s] ∧ d = D.ofBytes s
  | .lst e, d, vs => ∃ a n c, vs = [.slice a n c] ∧ n = d.len ∧ n ≤ c ∧ ∀ m, m < n → ∃ b o us, a = some ⟨b, o, none⟩ ∧ Z b ∧ us.length = e.size ∧ At w b (o + m * e.size) us ∧ R w Z e (d.get m) us
  | .nil, _, vs => vs = []
  | .cons a b, d, vs => ∃ v us, vs = v :: us ∧ R w Z a d.hd [v] ∧ R w Z b d.tl us
/-- the world stays as it is there -/
def Same (Z : Nat → Prop) (w w' : World) : Prop := ∀ b, Z b → w'.heap[b]? = w.heap[b]?
section
variable {P : Program} {T : Tab} {η : Env} {ρ ρ' : Plc} {w w' : World} {Z Z' : Nat → Prop}
theorem At.same {b o : Nat} {vs : List Value} (h : At w b o vs) (hb : w'.heap[b]? = w.heap[b]?) : At w' b o vs := fun j v hv => (World.cell?_of_block (a := ⟨b, o + j, none⟩) hb).trans (h j v hv)
theorem R.mono (hs : Same Z w w') (hZ : ∀ b, Z b → Z' b) : ∀ {c : CK} {d : D} {vs : List Value}, R w Z c d vs → R w' Z' c d vs := by
  intro c
  induction c with
  | lst e ih =>
    rintro d vs ⟨a, n, c, h1, h2, h3, h4⟩
    refine ⟨a, n, c, h1, h2, h3, fun m hm => ?_⟩
    obtain ⟨b, o, us, g1, g2, g3, g4, g5⟩ := h4 m hm
    exact ⟨b, o, us, g1, hZ b g2, g3, g4.same (hs b g2), ih g5⟩
  | cons a b iha ihb =>
    rintro d vs ⟨v, us, h1, h2, h3⟩
    exact ⟨v, us, h1, iha h2, ihb h3⟩
  | _ => exact fun h => h
theorem R.flat {c : CK} (hc : c.flat = true) : ∀ {d : D} {vs : List Value}, R w Z c d vs → R w' Z' c d vs := by
  induction c with
  | lst e ih => cases hc
  | cons a b iha ihb =>
    simp only [CK.flat, Bool.and_eq_true] at hc
    rintro d vs ⟨v, us, h1, h2, h3⟩
    exact ⟨v, us, h1, iha hc.1 h2, ihb hc.2 h3⟩
  | _ => exact fun h => h
/-- what follows j cells -/
theorem R.drop : ∀ {c : CK} {d : D} {vs : List Value} (j : Nat), j < c.size → R w Z c d vs → R w Z (c.drop j) (d.drop j) (vs.drop j) := by
  intro c
  induction c with
  | cons a b iha ihb =>
    intro d vs j hj h
    cases j with
    | zero => rw [D.drop_zero]; cases vs <;> exact h
    | succ j =>
      obtain ⟨v, us, rfl, h2, h3⟩ := h
      have : d.drop (j + 1) = d.tl.drop j := by cases d <;> simp [D.drop, D.tl, D.drop_nil]
      rw [this]
      cases b with
      | cons a' b' => exact ihb j (by simpa [CK.size] using hj) h3
      | _ => simp [CK.size] at hj
  | _ => intro d vs j hj; simp [CK.size] at hj
variable (T η ρ w Z) in
/-- a cell's value -/
def Sc.V : Sc → Value → Prop
  | .int k x, v => v = .int k (x.d T η).int
  | .bool x, v => v = .bool (x.d T η).bool
  | .str x, v => R w Z .str (x.d T η) [v]
  | .lst e x, v => R w Z (.lst e) (x.d T η) [v]
  | .own id, v => v = (ρ id).hdr
  | .ptr id off, v => (ρ id).nil = false ∧ v = .pointer (some ⟨(ρ id).b, (ρ id).off + off, none⟩)
  | .rp id sz x off, v => v = .pointer (some ⟨(ρ id).b, (x.d T η).int.toNat * sz + off, none⟩)
  | .lp ks x, v => ∃ b o us, v = .pointer (some ⟨b, o, none⟩) ∧ Z b ∧ us.length = ks.size ∧ At w b o us ∧ R w Z ks (x.d T η) us
  | .nilp, v => v = .pointer none
  | .nils, v => v = .slice none 0 0
  | .opq j, v => v = (η.v j).1
  | .fn f, v => v = .func (.func f) #[] #[]
variable (T η ρ w Z) in
def VL : List Sc → List Value → Prop
  | [], vs => vs = []
  | c :: l, vs => ∃ v us, vs = v :: us ∧ c.V T η ρ w Z v ∧ VL l us
variable (T η ρ w Z) in
def S1.V : S1 → Value → Prop
  | .one c, v => c.V T η ρ w Z v
  | .agg l, v => ∃ vs, v = .agg vs.toArray ∧ VL T η ρ w Z l vs
variable (T η ρ w Z) in
def VT : List S1 → List Value → Prop
  | [], vs => vs = []
  | c :: l, vs => ∃ v us, vs = v :: us ∧ c.V T η ρ w Z v ∧ VT l us
variable (T η ρ w Z) in
def SV.V : SV → Value → Prop
  | .v x, u => x.V T η ρ w Z u
  | .tup l, u => ∃ vs, u = .tuple vs.toArray ∧ VT T η ρ w Z l vs
variable (T η ρ w Z) in
/-- a block's cells -/
def Blk.V : Blk → Pl → Prop
  | .box cs, p => p.nil = false ∧ p.b < w.heap.size ∧ ∃ vs, VL T η ρ w Z cs vs ∧ ∀ (j : Nat) v, vs[j]? = some v → w.cell? ⟨p.b, p.off + j, none⟩ = some v ∧ w.frozen? ⟨p.b, p.off + j, none⟩ = false
  | .row t e x, p => p.off = 0 ∧ 0 < e.size ∧ ∃ vs, w.ownsRow 0 t e.size p.hdr (x.d T η).len vs ∧ ∀ m, m < (x.d T η).len → ∃ us, us.length = e.size ∧ R w Z e ((x.d T η).get m) us ∧ ∀ (j : Nat) u, us[j]? = some u → vs[m * e.size + j]? = some u
  | .froz e x, p => R w Z (.lst e) (x.d T η) [p.hdr]
theorem cells_one {v : Value} (h : v.oneCell' = true) : v.cells = #[v] := by cases v <;> simp_all [Value.cells, Value.oneCell']
theorem Sc.V.one {c : Sc} {v : Value} (h : c.V T η ρ w Z v) : v.oneCell' = true := by
  cases c <;> simp only [Sc.V] at h
  case str => obtain ⟨s, h, -⟩ := h; simp at h; subst h; rfl
  case lst => obtain ⟨a, n, c, h, -⟩ := h; simp at h; subst h; rfl
  case own => subst h; unfold Pl.hdr; split <;> rfl
  case ptr => obtain ⟨-, rfl⟩ := h; rfl
  case lp => obtain ⟨b, o, us, rfl, -⟩ := h; rfl
  case opq => subst h; exact (η.v _).2
  all_goals subst h; rfl
theorem VL.len : ∀ {l : List Sc} {vs : List Value}, VL T η ρ w Z l vs → vs.length = l.length
  | [], _, h => by simp only [VL] at h; subst h; rfl
  | c :: l, _, h => by obtain ⟨v, us, rfl, -, h2⟩ := h; simp [VL.len h2]
theorem VL.get : ∀ {l : List Sc} {vs : List Value}, VL T η ρ w Z l vs → ∀ {j : Nat} {c : Sc}, l[j]? = some c → ∃ v, vs[j]? = some v ∧ c.V T η ρ w Z v
  | [], _, _, j, c, h => by simp at h
  | c :: l, _, h, 0, _, hc => by obtain ⟨v, us, rfl, h1, -⟩ := h; simp at hc; subst hc; exact ⟨v, rfl, h1⟩
  | c :: l, _, h, j + 1, _, hc => by obtain ⟨v, us, rfl, -, h2⟩ := h; exact VL.get h2 (by simpa using hc)
theorem VL.mem : ∀ {l : List Sc} {vs : List Value}, VL T η ρ w Z l vs → ∀ u ∈ vs, u.oneCell' = true
  | [], _, h, u, hu => by simp only [VL] at h; subst h; cases hu
  | c :: l, _, h, u, hu => by
    obtain ⟨v, us, rfl, h1, h2⟩ := h
    rcases List.mem_cons.1 hu with rfl | hu
    · exact h1.one
    · exact VL.mem h2 u hu
theorem VL.append : ∀ {l m : List Sc} {vs us : List Value}, VL T η ρ w Z l vs → VL T η ρ w Z m us → VL T η ρ w Z (l ++ m) (vs ++ us)
  | [], m, _, us, h, hm => by simp only [VL] at h; subst h; exact hm
  | c :: l, m, _, us, h, hm => by obtain ⟨v, r, rfl, h1, h2⟩ := h; exact ⟨v, r ++ us, rfl, h1, VL.append h2 hm⟩
theorem VL.drop : ∀ {l : List Sc} {vs : List Value} (n : Nat), VL T η ρ w Z l vs → VL T η ρ w Z (l.drop n) (vs.drop n)
  | l, vs, 0, h => by simpa using h
  | [], _, n + 1, h => by simp only [VL] at h; subst h; simp [VL]
  | c :: l, _, n + 1, h => by obtain ⟨v, us, rfl, -, h2⟩ := h; simpa using VL.drop n h2
theorem VL.take : ∀ {l : List Sc} {vs : List Value} (n : Nat), VL T η ρ w Z l vs → VL T η ρ w Z (l.take n) (vs.take n)
  | l, vs, 0, h => by simp [VL]
  | [], _, n + 1, h => by simp only [VL] at h; subst h; simp [VL]
  | c :: l, _, n + 1, h => by obtain ⟨v, us, rfl, h1, h2⟩ := h; exact ⟨v, us.take n, rfl, h1, VL.take n h2⟩
theorem VT.get : ∀ {l : List S1} {vs : List Value}, VT T η ρ w Z l vs → ∀ {j : Nat} {c : S1}, l[j]? = some c → ∃ v, vs[j]? = some v ∧ c.V T η ρ w Z v
  | [], _, _, j, c, h => by simp at h
  | c :: l, _, h, 0, _, hc => by obtain ⟨v, us, rfl, h1, -⟩ := h; simp at hc; subst hc; exact ⟨v, rfl, h1⟩
  | c :: l, _, h, j + 1, _, hc => by obtain ⟨v, us, rfl, -, h2⟩ := h; exact VT.get h2 (by simpa using hc)
/-- a value's cells -/
theorem S1.V.cells {x : S1} {v : Value} (h : x.V T η ρ w Z v) : ∃ vs, v.cells = vs.toArray ∧ VL T η ρ w Z x.cells vs := by
  cases x with
  | one c => exact ⟨[v], by rw [cells_one (Sc.V.one h)], v, [], rfl, h, rfl⟩
  | agg l => obtain ⟨vs, rfl, h⟩ := h; exact ⟨vs, rfl, h⟩
/- values stay -/
theorem Sc.V.mono {c : Sc} {v : Value} {p : Nat → Bool} (h : c.V T η ρ w Z v) (hi : c.ids p = true) (hρ : ∀ id, p id = true → ρ' id = ρ id) (hs : Same Z w w') (hZ : ∀ b, Z b → Z' b) : c.V T η ρ' w' Z' v := by
  cases c <;> simp only [Sc.V] at h ⊢ <;> simp only [Sc.ids] at hi
  case str => exact R.mono hs hZ h
  case lst => exact R.mono hs hZ h
  case own => rw [hρ _ hi]; exact h
  case ptr => rw [hρ _ hi]; exact h
  case rp => rw [hρ _ hi]; exact h
  case lp => obtain ⟨b, o, us, h1, h2, h3, h4, h5⟩ := h; exact ⟨b, o, us, h1, hZ b h2, h3, h4.same (hs b h2), R.mono hs hZ h5⟩
  all_goals exact h
theorem VL.mono {p : Nat → Bool} (hρ : ∀ id, p id = true → ρ' id = ρ id) (hs : Same Z w w') (hZ : ∀ b, Z b → Z' b) : ∀ {l : List Sc} {vs : List Value}, VL T η ρ w Z l vs → l.all (Sc.ids p) = true → VL T η ρ' w' Z' l vs
  | [], _, h, _ => h
  | c :: l, _, h, hi => by
    obtain ⟨v, us, h1, h2, h3⟩ := h
    simp only [List.all_cons, Bool.and_eq_true] at hi
    exact ⟨v, us, h1, h2.mono hi.1 hρ hs hZ, VL.mono hρ hs hZ h3 hi.2⟩
theorem S1.V.mono {x : S1} {v : Value} {p : Nat → Bool} (h : x.V T η ρ w Z v) (hi : x.ids p = true) (hρ : ∀ id, p id = true → ρ' id = ρ id) (hs : Same Z w w') (hZ : ∀ b, Z b → Z' b) : x.V T η ρ' w' Z' v := by
  cases x with
  | one c => exact Sc.V.mono h (by simpa [S1.ids, S1.cells] using hi) hρ hs hZ
  | agg l => obtain ⟨vs, h1, h2⟩ := h; exact ⟨vs, h1, VL.mono hρ hs hZ h2 hi⟩
theorem VT.mono {p : Nat → Bool} (hρ : ∀ id, p id = true → ρ' id = ρ id) (hs : Same Z w w') (hZ : ∀ b, Z b → Z' b) : ∀ {l : List S1} {vs : List Value}, VT T η ρ w Z l vs → l.all (S1.ids p) = true → VT T η ρ' w' Z' l vs
  | [], _, h, _ => h
  | c :: l, _, h, hi => by
    obtain ⟨v, us, h1, h2, h3⟩ := h
    simp only [List.all_cons, Bool.and_eq_true] at hi
    exact ⟨v, us, h1, h2.mono hi.1 hρ hs hZ, VT.mono hρ hs hZ h3 hi.2⟩
theorem SV.V.mono {x : SV} {v : Value} {p : Nat → Bool} (h : x.V T η ρ w Z v) (hi : x.ids p = true) (hρ : ∀ id, p id = true → ρ' id = ρ id) (hs : Same Z w w') (hZ : ∀ b, Z b → Z' b) : x.V T η ρ' w' Z' v := by
  cases x with
  | v x => exact S1.V.mono h hi hρ hs hZ
  | tup l => obtain ⟨vs, h1, h2⟩ := h; exact ⟨vs, h1, VT.mono hρ hs hZ h2 hi⟩
/-- a block stays if its own cells do -/
theorem Blk.V.mono {x : Blk} {q : Pl} {p : Nat → Bool} (h : x.V T η ρ w Z q) (hi : x.ids p = true) (hρ : ∀ id, p id = true → ρ' id = ρ id) (hs : Same Z w w') (hZ : ∀ b, Z b → Z' b) (hsz : w.heap.size ≤ w'.heap.size) (hb : x.mut = true → q.nil = false → w'.heap[q.b]? = w.heap[q.b]?) : x.V T η ρ' w' Z' q := by
  cases x with
  | box cs =>
    obtain ⟨h1, h2, vs, h3, h4⟩ := h
    refine ⟨h1, Nat.lt_of_lt_of_le h2 hsz, vs, VL.mono hρ hs hZ h3 hi, fun j v hv => ?_⟩
    obtain ⟨g1, g2⟩ := h4 j v hv
    exact ⟨(World.cell?_of_block (a := ⟨q.b, q.off + j, none⟩) (hb rfl h1)).trans g1, (World.frozen?_of_block (a := ⟨q.b, q.off + j, none⟩) (hb rfl h1)).trans g2⟩
  | row t e x =>
    obtain ⟨h1, h2, vs, h3, h4⟩ := h
    refine ⟨h1, h2, vs, ⟨h3.1, ?_⟩, fun m hm => ?_⟩
    · rcases h3.2 with h5 | ⟨g, cap, cur, e1, h6, h7, h8⟩
      · exact .inl h5
      · refine .inr ⟨g, cap, cur, e1, h6, ?_, h8⟩
        unfold Pl.hdr at e1
        split at e1
        · cases e1
        · rename_i hn
          simp only [Value.slice.injEq, Option.some.injEq, Addr.mk.injEq] at e1
          obtain ⟨⟨rfl, -, -⟩, -, -⟩ := e1
          rw [hb rfl (by simpa using hn)]; exact h7
    · obtain ⟨us, g1, g2, g3⟩ := h4 m hm
      exact ⟨us, g1, R.mono hs hZ g2, g3⟩
  | froz e x => exact R.mono hs hZ h
theorem add_adr (b o n : Nat) : (⟨b, o, none⟩ : Addr).add n = ⟨b, o + n, none⟩ := by
  unfold Addr.add; split
  · rename_i h; subst h; rfl
  · rfl
/-- what a row holds -/
theorem row_R {t : TypeId} {e : CK} {x : X} {q : Pl} (h : (Blk.row t e x).V T η ρ w Z q) (hZ : ∀ b, Z b → Z' b) (hq : ∀ b, q.at b → Z' b) : R w Z' (.lst e) (x.d T η) [q.hdr] := by
  obtain ⟨h1, h2, vs, h3, h4⟩ := h
  rcases h3.2 with ⟨h5, h6⟩ | ⟨g, cap, cur, e1, h6, h7, h8, -⟩
  · exact ⟨none, 0, 0, by rw [h5], h6.symm, Nat.le_refl _, fun m hm => by omega⟩
  · refine ⟨some ⟨g, 0, none⟩, (x.d T η).len, cap, by rw [e1], rfl, h8, fun m hm => ?_⟩
    obtain ⟨us, g1, g2, g3⟩ := h4 m hm
    have hg : q.at g := by
      unfold Pl.hdr at e1
      split at e1
      · cases e1
      · rename_i hn
        simp only [Value.slice.injEq, Option.some.injEq, Addr.mk.injEq] at e1
        exact ⟨by simpa using hn, e1.1.1⟩
    refine ⟨g, 0, us, rfl, hq g hg, g1, fun j v hv => ?_, R.mono (fun _ _ => rfl) hZ g2⟩
    have := h3.cells (g := g) (by rw [e1]; rfl) _ _ (g3 j v hv)
    rw [add_adr] at this
    rw [Nat.add_assoc]; exact this
/- cells out of values, values out of cells -/
theorem ofX_V {a : CK} {x : X} {c : Sc} {v : Value} (h : Sc.ofX a x = some c) (hR : R w Z a (x.d T η) [v]) : c.V T η ρ w Z v := by
  cases a <;> simp only [Sc.ofX, Option.some.injEq, reduceCtorEq] at h <;> subst h
  · simpa [R, Sc.V] using hR
  · simpa [R, Sc.V] using hR
  · exact hR
  · exact hR
theorem unpack_V : ∀ {ks : CK} {x : X} {j : Nat} {l : List Sc} {us : List Value}, unpack ks x j = some l → R w Z ks ((x.d T η).drop j) us → VL T η ρ w Z l us := by
  intro ks
  induction ks with
  | cons a b iha ihb =>
    intro x j l us h hR
    simp only [unpack] at h
    split at h
    · rename_i c r h1 h2
      simp at h; subst h
      obtain ⟨v, us', rfl, g1, g2⟩ := hR
      rw [D.hd_drop] at g1
      rw [D.tl_drop] at g2
      refine ⟨v, us', rfl, ofX_V h1 ?_, ihb h2 g2⟩
      rw [mk2_d]
      exact g1
    · cases h
  | nil => intro x j l us h hR; simp [unpack] at h; subst h; exact hR
  | _ => intro x j l us h; simp [unpack] at h
/-- the blocks that are there lie in memory -/
def BKV (T : Tab) (η : Env) (ρ : Plc) (w : World) (Z : Nat → Prop) (bk : BK) : Prop := ∀ id b, bk id = some b → b.V T η ρ w Z (ρ id)
theorem mem_joinL {a b : Ws} {q : Nat × Option Blk} (h : q ∈ a) : q ∈ joinW a b := List.mem_append_left _ h
theorem mem_joinR {a b : Ws} {q : Nat × Option Blk} (h : q ∈ b) : ∃ r ∈ joinW a b, r.1 = q.1 := by
  unfold joinW
  by_cases hq : (a.any fun p => p.1 == q.1) = true
  · rw [List.any_eq_true] at hq
    obtain ⟨p, hp, he⟩ := hq
    exact ⟨p, List.mem_append_left _ hp, by simpa using he⟩
  · exact ⟨q, List.mem_append_right _ (List.mem_filter.2 ⟨h, by rw [Bool.not_eq_true] at hq; rw [hq]; rfl⟩), rfl⟩
/-- the rows that are kept lie in Z' -/
def Kept (ρ : Plc) (Z' : Nat → Prop) (ws : Ws) : Prop := ∀ q ∈ ws, ∀ b, (ρ q.1).at b → Z' b
theorem Kept.left {a b : Ws} (h : Kept ρ Z' (joinW a b)) : Kept ρ Z' a := fun q hq => h q (mem_joinL hq)
theorem Kept.right {a b : Ws} (h : Kept ρ Z' (joinW a b)) : Kept ρ Z' b := fun q hq c hc => by
  obtain ⟨r, hr, e⟩ := mem_joinR (a := a) hq
  exact h r hr c (by rw [e]; exact hc)
theorem toX_R {bk : BK} (hbk : BKV T η ρ w Z bk) {a : CK} {c : Sc} {x : X} {ws : Ws} (h : c.toX bk a = some (x, ws)) {v : Value} (hv : c.V T η ρ w Z v) (hZ : ∀ b, Z b → Z' b) (hk : Kept ρ Z' ws) : R w Z' a (x.d T η) [v] := by
  unfold Sc.toX at h
  split at h
  · split at h
    · rename_i e; simp at h; obtain ⟨rfl, -⟩ := h; subst e; simp only [Sc.V] at hv; subst hv; exact rfl
    · cases h
  · simp at h; obtain ⟨rfl, -⟩ := h; simp only [Sc.V] at hv; subst hv; exact rfl
  · simp at h; obtain ⟨rfl, -⟩ := h; exact R.mono (fun _ _ => rfl) hZ hv
  · split at h
    · rename_i e; simp at h; obtain ⟨rfl, -⟩ := h; subst e; exact R.mono (fun _ _ => rfl) hZ hv
    · cases h
  · simp at h; obtain ⟨rfl, -⟩ := h
    simp only [Sc.V] at hv; subst hv
    exact ⟨none, 0, 0, rfl, rfl, Nat.le_refl _, fun m hm => by omega⟩
  · rename_i e id
    simp only [Sc.V] at hv; subst hv
    split at h
    · rename_i t e' y hb
      split at h
      · rename_i he
        simp at h; obtain ⟨rfl, rfl⟩ := h; subst he
        exact row_R (hbk _ _ hb) hZ (hk _ (List.mem_singleton_self _))
      · cases h
    · rename_i e' y hb
      split at h
      · rename_i he
        simp at h; obtain ⟨rfl, rfl⟩ := h; subst he
        exact R.mono (fun _ _ => rfl) hZ (hbk _ _ hb)
      · cases h
    · cases h
  · cases h
theorem packL_R {bk : BK} (hbk : BKV T η ρ w Z bk) (hZ : ∀ b, Z b → Z' b) : ∀ {ks : CK} {l : List Sc} {x : X} {ws : Ws}, packL bk ks l = some (x, ws) → ∀ {us : List Value}, VL T η ρ w Z l us → Kept ρ Z' ws → R w Z' ks (x.d T η) us ∧ us.length = ks.size := by
  intro ks
  induction ks with
  | nil =>
    intro l x ws h us hv _
    cases l <;> simp [packL] at h
    obtain ⟨rfl, -⟩ := h
    simp only [VL] at hv; subst hv
    exact ⟨rfl, rfl⟩
  | cons a b iha ihb =>
    intro l x ws h us hv hk
    cases l with
    | nil => simp [packL] at h
    | cons c l =>
      simp only [packL] at h
      split at h
      · rename_i x1 w1 y w2 h1 h2
        simp at h; obtain ⟨rfl, rfl⟩ := h
        obtain ⟨v, us', rfl, g1, g2⟩ := hv
        have hk : Kept ρ Z' (joinW w1 w2) := hk
        obtain ⟨r1, r2⟩ := ihb h2 g2 hk.right
        rw [mk2_d]
        exact ⟨⟨v, us', rfl, toX_R hbk h1 g1 hZ hk.left, r1⟩, by simp [CK.size, r2]⟩
      · cases h
  | _ => intro l x ws h; cases l <;> simp [packL] at h
theorem packE_R {bk : BK} (hbk : BKV T η ρ w Z bk) (hZ : ∀ b, Z b → Z' b) {e : CK} {n : Nat} : ∀ {m : Nat} {l : List Sc} {x : X} {ws : Ws}, packE bk e n m l = some (x, ws) → ∀ {us : List Value}, VL T η ρ w Z l us → Kept ρ Z' ws →
    (x.d T η).len = m ∧ ∀ k, k < m → R w Z' e ((x.d T η).get k) ((us.drop (k * n)).take n) ∧ ((us.drop (k * n)).take n).length = e.size
  | 0, l, x, ws, h, us, hv, hk => by simp [packE] at h; obtain ⟨rfl, -⟩ := h; exact ⟨rfl, fun k hk => by omega⟩
  | m + 1, l, x, ws, h, us, hv, hk => by
    simp only [packE] at h
    split at h
    · rename_i x1 w1 y w2 h1 h2
      simp at h; obtain ⟨rfl, rfl⟩ := h
      have hk : Kept ρ Z' (joinW w1 w2) := hk
      have g1 := packL_R hbk hZ h1 (VL.take n hv) hk.left
      obtain ⟨g2, g3⟩ := packE_R hbk hZ h2 (VL.drop n hv) hk.right
      rw [mk2_d]
      refine ⟨by simp only [den2, D.len, g2], fun k hk' => ?_⟩
      cases k with
      | zero => simpa only [den2, D.get, Nat.zero_mul, List.drop_zero] using g1
      | succ k =>
        have := g3 k (by omega)
        rw [List.drop_drop, show n + k * n = (k + 1) * n by rw [Nat.succ_mul]; omega] at this
        simpa only [den2, D.get] using this
    · cases h
theorem sliceX_R {bk : BK} (hbk : BKV T η ρ w Z bk) {c : Sc} {e : CK} {x : X} {ws : Ws} (h : sliceX bk c = some (e, x, ws)) {v : Value} (hv : c.V T η ρ w Z v) (hZ : ∀ b, Z b → Z' b) (hk : Kept ρ Z' ws) : R w Z' (.lst e) (x.d T η) [v] := by
  unfold sliceX at h
  split at h
  · simp at h; obtain ⟨rfl, rfl, -⟩ := h; exact R.mono (fun _ _ => rfl) hZ hv
  · rename_i id
    simp only [Sc.V] at hv; subst hv
    split at h
    · rename_i t e' y hb
      simp at h; obtain ⟨rfl, rfl, rfl⟩ := h
      exact row_R (hbk _ _ hb) hZ (hk _ (List.mem_singleton_self _))
    · rename_i e' y hb
      simp at h; obtain ⟨rfl, rfl, rfl⟩ := h
      exact R.mono (fun _ _ => rfl) hZ (hbk _ _ hb)
    · cases h
  · cases h
end
end
end Go.Sz
