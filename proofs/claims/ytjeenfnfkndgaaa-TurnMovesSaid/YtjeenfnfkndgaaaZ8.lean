/- The evaluator: the table of functions; arguments in range. -/
import Derived.Test.YtjeenfnfkndgaaaZ7
import Derived.Test.YtjeenfnfkndgaaaZ2
namespace Go.Sz
open Go Go.RowKit Go.ChangeShapes
theorem nodupB_head {a : Nat} {l : List Nat} (h : nodupB (a :: l) = true) : a ∉ l ∧ nodupB l = true := by
  simp only [nodupB, Bool.and_eq_true, Bool.not_eq_true'] at h
  exact ⟨fun hm => by have := List.contains_iff_mem.2 hm; rw [this] at h; exact absurd h.1 (by decide), h.2⟩
theorem tabF_ok : ∀ {F : Fs}, nodupB (F.map (·.1)) = true → F.ok (tabF F)
  | [], _, q, hq => by cases hq
  | p :: F, h, q, hq => by
    obtain ⟨h1, h2⟩ := nodupB_head (by simpa using h : nodupB (p.1 :: F.map (·.1)) = true)
    rcases List.mem_cons.1 hq with rfl | hq
    · unfold tabF; rw [List.find?_cons_of_pos (by simp)]
    · have hne : p.1 ≠ q.1 := fun e => h1 (e ▸ List.mem_map_of_mem hq)
      have := tabF_ok h2 q hq
      unfold tabF at this ⊢
      rw [List.find?_cons_of_neg (by simpa using hne)]
      exact this
theorem wf_int {k : IntKind} {d : D} (h : D.wf (.int k) d) : k.min ≤ d.int ∧ d.int ≤ k.max := by
  simp only [D.wf, Lit.wf, Bool.and_eq_true, decide_eq_true_eq] at h
  exact h
def ckNth : CK → Nat → Option CK
  | .cons a _, 0 => some a
  | .cons _ b, j + 1 => ckNth b j
  | _, _ => none
theorem wf_get : ∀ {c : CK} {d : D} (j : Nat), D.wf c d → ∀ {x : CK}, (ckNth c j) = some x → D.wf x (d.get j)
  | .cons a b, d, 0, h, x, hx => by
    simp only [ckNth, Option.some.injEq] at hx; subst hx
    rw [D.get_hd]; exact h.1
  | .cons a b, d, j + 1, h, x, hx => by
    rw [← D.get_tl]; exact wf_get j h.2 (by simpa [ckNth] using hx)
  | .int _, _, _, _, _, hx | .bool, _, _, _, _, hx | .str, _, _, _, _, hx | .lst _, _, _, _, _, hx | .nil, _, _, _, _, hx => by simp [ckNth] at hx
theorem trodAll_len {P : Program} {w : World} {H : Type} {enc : TypeId × Value → H} {f : Nat → Bool} : ∀ {ts : List TypeId} {vs : List Value} {ds : List (DataW H)} {p : List MemPlace}, DataW.TrodAll enc P w 0 f true ts vs ds p → ds.length = ts.length
  | [], vs, ds, p, h => by
    obtain ⟨rfl, rfl, rfl⟩ := trodAll_nil h
    rfl
  | t :: ts, vs, ds, p, h => by
    obtain ⟨v, vs', d, ds', p1, p2, rfl, rfl, rfl, h1, h2⟩ := trodAll_cons h
    simp [trodAll_len h2]
end Go.Sz
