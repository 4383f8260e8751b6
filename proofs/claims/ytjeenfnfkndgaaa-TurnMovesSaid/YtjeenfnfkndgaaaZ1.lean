/- The evaluator: a row's arguments as values without addresses. -/
import Derived.Test.YtjeenfnfkndgaaaZZ
import Derived.WalkKit
import Derived.ProofKit
import Derived.OpenShut
import Derived.ChangeSlices
import Derived.ChangeArms
import Derived.ChangeOld
namespace Go.Sz
open Go Go.RowKit
noncomputable section
/-- ints in range, lists and strings of lengths that are possible -/
def D.wf : CK → D → Prop
  | .int k, d => (Lit.int k d.int).wf = true
  | .str, d => d.len ≤ maxLen
  | .lst e, d => d.len ≤ maxLen ∧ ∀ m, m < d.len → D.wf e (d.get m)
  | .cons x y, d => D.wf x d.hd ∧ D.wf y d.tl
  | _, _ => True
def CK.chain : CK → Bool
  | .cons _ b => b.chain
  | .nil => true
  | _ => false
theorem chain_app : ∀ {a b : CK}, a.chain = true → b.chain = true → (a.app b).chain = true := by
  intro a b
  induction a with
  | cons x y _ ih => exact fun h1 h2 => ih h1 h2
  | nil => exact fun _ h2 => h2
  | _ => intro h1; simp [CK.chain] at h1
theorem size_app : ∀ {a b : CK}, a.chain = true → (a.app b).size = a.size + b.size := by
  intro a b
  induction a with
  | cons x y _ ih => intro h1; have := ih h1; simp only [CK.app, CK.size]; omega
  | nil => intro _; simp [CK.app, CK.size]
  | _ => intro h1; simp [CK.chain] at h1
theorem chain_rep {c : CK} (h : c.chain = true) : ∀ n, (CK.rep n c).chain = true ∧ (CK.rep n c).size = n * c.size
  | 0 => by simp [CK.rep, CK.chain, CK.size]
  | n + 1 => by
    obtain ⟨h1, h2⟩ := chain_rep h n
    refine ⟨chain_app h h1, ?_⟩
    rw [CK.rep, size_app h, h2, Nat.succ_mul]; omega
theorem len_app : ∀ {a b : D}, (a.app b).len = a.len + b.len := by
  intro a b
  induction a with
  | cons x y _ ih => simp only [D.app, D.len, ih]; omega
  | _ => simp [D.app, D.len]
theorem len_of : ∀ (l : List D), (D.of l).len = l.length
  | [] => rfl
  | a :: l => by simp only [D.of, D.len, len_of l, List.length_cons]
theorem get_of : ∀ (l : List D) (i : Nat) {d : D}, l[i]? = some d → (D.of l).get i = d
  | [], i, d, h => by simp at h
  | a :: l, 0, d, h => by simpa [D.of, D.get] using h
  | a :: l, i + 1, d, h => by simpa [D.of, D.get] using get_of l i (by simpa using h)
section
variable {P : Program} {w : World} {Z : Nat → Prop}
theorem R_app : ∀ {a b : CK} {d e : D} {us vs : List Value}, a.chain = true → d.len = a.size → R w Z a d us → R w Z b e vs → R w Z (a.app b) (d.app e) (us ++ vs) := by
  intro a
  induction a with
  | cons x y _ ih =>
    intro b d e us vs hc hl h1 h2
    obtain ⟨v, us', rfl, h3, h4⟩ := h1
    cases d with
    | cons p q => exact ⟨v, us' ++ vs, rfl, h3, ih hc (by simpa [D.len, CK.size] using hl) h4 h2⟩
    | _ => simp [D.len, CK.size] at hl
  | nil =>
    intro b d e us vs _ hl h1 h2
    simp only [R] at h1; subst h1
    cases d with
    | cons p q => simp [D.len, CK.size] at hl
    | _ => exact h2
  | _ => intro b d e us vs hc; simp [CK.chain] at hc
theorem wf_app : ∀ {a b : CK} {d e : D}, a.chain = true → d.len = a.size → D.wf a d → D.wf b e → D.wf (a.app b) (d.app e) := by
  intro a
  induction a with
  | cons x y _ ih =>
    intro b d e hc hl h1 h2
    cases d with
    | cons p q => exact ⟨h1.1, ih hc (by simpa [D.len, CK.size] using hl) h1.2 h2⟩
    | _ => simp [D.len, CK.size] at hl
  | nil =>
    intro b d e _ hl h1 h2
    cases d with
    | cons p q => simp [D.len, CK.size] at hl
    | _ => exact h2
  | _ => intro b d e hc; simp [CK.chain] at hc
/-- a type's cells lie one after the other -/
def layFs (P : Program) (ck : TypeId → Option CK) (rec : TypeId → Bool) : Nat → List Field → Bool
  | _, [] => true
  | off, f :: l => decide (f.offset = off) && rec f.type && (match ck f.type with | some c => decide (P.cellsOf f.type = c.size) && layFs P ck rec (off + c.size) l | none => false)
def ckLay (P : Program) : Nat → TypeId → Bool
  | 0, _ => false
  | n + 1, t => (match ckT P (n + 1) t with | some c => decide (P.cellsOf t = c.size) && c.chain | none => false) && match P.underlying t with
    | some (.slice e) => ckLay P n e && (match ckT P n e with | some c => decide (P.cellsOf e = c.size) && decide (0 < c.size) && c.chain | none => false)
    | some (.struct fs) => layFs P (ckT P n) (ckLay P n) 0 fs.toList && fs.toList.all fun f => match ckT P n f.type with | some c => c.chain | none => false
    | some (.array _ e) => ckLay P n e && (match ckT P n e with | some c => decide (P.cellsOf e = c.size) && c.chain | none => false)
    | _ => true
variable {H : Type} {enc : TypeId × Value → H}
/-- what an argument is -/
def ArgR (w : World) (c : CK) (cs : List Value) : Prop := ∃ d, R w (fun g => g < w.heap.size) c d cs ∧ D.wf c d ∧ d.len = c.size ∧ cs.length = c.size
theorem ArgR.app {a b : CK} {us vs : List Value} (hc : a.chain = true) (h1 : ArgR w a us) (h2 : ArgR w b vs) : ArgR w (a.app b) (us ++ vs) := by
  obtain ⟨d, g1, g2, g3, g4⟩ := h1
  obtain ⟨e, k1, k2, k3, k4⟩ := h2
  exact ⟨d.app e, R_app hc g3 g1 k1, wf_app hc g3 g2 k2, by rw [len_app, size_app hc]; omega, by rw [size_app hc]; simp; omega⟩
theorem ArgR.nil : ArgR w .nil [] := ⟨.nil, rfl, trivial, rfl, rfl⟩
theorem fields_R {ck : TypeId → Option CK} {rec : TypeId → Bool} : ∀ {fs : List Field} {off : Nat} {c : CK} {cs : List Value}, layFs P ck rec off fs = true → (fs.all fun f => match ck f.type with | some c => c.chain | none => false) = true →
    fs.foldr (fun f acc => match ck f.type, acc with | some c, some r => some (c.app r) | _, _ => none) (some .nil) = some c → cs.length = off + c.size →
    (∀ f ∈ fs, ∀ c', ck f.type = some c' → rec f.type = true → ∀ us, us = (cs.drop f.offset).take (P.cellsOf f.type) → ArgR w c' us) → ArgR w c (cs.drop off)
  | [], off, c, cs, _, _, hc, hl, _ => by
    simp at hc; subst hc
    rw [List.drop_eq_nil_of_le (by simp [CK.size] at hl; omega)]
    exact ArgR.nil
  | f :: fs, off, c, cs, h, ha, hc, hl, hr => by
    simp only [layFs, Bool.and_eq_true, decide_eq_true_eq] at h
    obtain ⟨⟨h1, h2⟩, h3⟩ := h
    rw [List.foldr_cons] at hc
    cases hk : ck f.type with
    | none => rw [hk] at h3; cases h3
    | some c1 =>
      rw [hk] at h3 hc
      simp only [Bool.and_eq_true, decide_eq_true_eq] at h3
      simp only [List.all_cons, hk, Bool.and_eq_true] at ha
      split at hc
      · rename_i c2 c3 e1 e2
        simp at e1 hc; subst e1 hc
        have hs := size_app (b := c3) ha.1
        have g1 := hr f (List.mem_cons_self) _ hk h2 _ rfl
        rw [h1, h3.1] at g1
        have g2 := fields_R (cs := cs) (off := off + c1.size) h3.2 ha.2 e2 (by rw [hl, hs]; omega) fun f' hf' => hr f' (List.mem_cons_of_mem _ hf')
        have := g1.app ha.1 g2
        rw [show (cs.drop off).take c1.size ++ cs.drop (off + c1.size) = cs.drop off by rw [← List.drop_drop]; exact List.take_append_drop _ _] at this
        exact this
      · cases hc
theorem array_R {c : CK} (hc : c.chain = true) : ∀ {n : Nat} {cs : List Value}, cs.length = n * c.size → (∀ i, i < n → ArgR w c ((cs.drop (i * c.size)).take c.size)) → ArgR w (CK.rep n c) cs
  | 0, cs, hl, _ => by
    have : cs = [] := List.length_eq_zero_iff.1 (by simpa using hl)
    subst this; exact ArgR.nil
  | n + 1, cs, hl, h => by
    have g1 := h 0 (by omega)
    rw [Nat.zero_mul, List.drop_zero] at g1
    have g2 := array_R hc (n := n) (cs := cs.drop c.size) (by rw [List.length_drop, hl, Nat.succ_mul]; omega) fun i hi => by
      have := h (i + 1) (by omega)
      rwa [List.drop_drop, show c.size + i * c.size = (i + 1) * c.size by rw [Nat.succ_mul]; omega]
    have := g1.app hc g2
    rwa [List.take_append_drop] at this
theorem pick {α β : Type} {p : α → Prop} {r : α → β → Prop} (h : ∀ a, p a → ∃ b, r a b) [Inhabited β] : ∃ f : α → β, ∀ a, p a → r a (f a) :=
  ⟨fun a => open Classical in if ha : p a then Classical.choose (h a ha) else default, fun a ha => by simp only [dif_pos ha]; exact Classical.choose_spec (h a ha)⟩
/-- AN ARGUMENT, OPENED -/
theorem trod_R : ∀ (fuel n : Nat) {t : TypeId} {c : CK} {cs : List Value} {x : DataW H × List MemPlace}, ckT P n t = some c → ckLay P n t = true → DataW.trod enc P w 0 (fun _ => true) true fuel t cs = some x → ArgR w c cs := by
  intro fuel
  induction fuel with
  | zero => intro n t c cs x _ _ h; simp [DataW.trod] at h
  | succ fuel ih =>
    intro n t c cs x hc hl h
    cases n with
    | zero => simp [ckT] at hc
    | succ n =>
      simp only [ckLay, hc, Bool.and_eq_true, decide_eq_true_eq] at hl
      obtain ⟨⟨hl1, hl2⟩, hl3⟩ := hl
      simp only [ckT] at hc
      split at hc
      · rename_i k ht
        simp at hc; subst hc
        unfold DataW.trod at h
        rw [ht] at h
        split at h <;> simp_all
        rename_i m hm
        exact ⟨.cons (.i m) .nil, ⟨_, _, rfl, by simp [R, D.hd, D.int], rfl⟩, ⟨by simpa [D.wf, D.hd, D.int] using h.1.2, trivial⟩, rfl, rfl⟩
      · rename_i ht
        simp at hc; subst hc
        unfold DataW.trod at h
        rw [ht] at h
        split at h <;> simp_all
        rename_i m
        exact ⟨.cons (.b m) .nil, ⟨_, _, rfl, by simp [R, D.hd, D.bool], rfl⟩, ⟨trivial, trivial⟩, rfl, rfl⟩
      · rename_i ht
        simp at hc; subst hc
        unfold DataW.trod at h
        rw [ht] at h
        split at h <;> simp_all
        rename_i m
        refine ⟨.cons (D.ofBytes m) .nil, ⟨_, _, rfl, ⟨m, rfl, rfl⟩, rfl⟩, ⟨?_, trivial⟩, rfl, rfl⟩
        simp only [D.wf, D.hd, D.ofBytes, len_of, List.length_map]
        exact h.1
      · rename_i e ht
        simp only [Option.map_eq_some_iff] at hc
        obtain ⟨ce, hce, rfl⟩ := hc
        rw [ht] at hl3
        simp only [hce, Bool.and_eq_true, decide_eq_true_eq] at hl3
        obtain ⟨g1, ⟨g2, g3⟩, g4⟩ := hl3
        rcases DataW.trod_slice ht h with ⟨rfl, -⟩ | ⟨a, len, cap, elems, rest, m, e1, rfl, -, -, hle, hmax, hlen, hel, -, -⟩
        · exact ⟨.cons .nil .nil, ⟨_, _, rfl, ⟨none, 0, 0, rfl, rfl, Nat.le_refl _, fun m hm => by omega⟩, rfl⟩, ⟨⟨Nat.zero_le _, fun m hm => by simp [D.hd, D.len] at hm⟩, trivial⟩, rfl, rfl⟩
        · simp only [Nat.succ.injEq] at e1; subst e1
          obtain ⟨b, off, spot⟩ := a
          have each : ∀ i, i < len → ∃ d, b < w.heap.size ∧ spot = none ∧ (∃ us, us.length = ce.size ∧ At w b (off + i * ce.size) us ∧ R w (fun g => g < w.heap.size) ce d us) ∧ D.wf ce d := fun i hi => by
            have h1 := hel i hi
            rw [List.getElem?_eq_getElem (by omega), Option.bind_eq_some_iff, g2] at h1
            obtain ⟨us, h2, h3⟩ := h1
            obtain ⟨d, r1, r2, r3, r4⟩ := ih n hce g1 h3
            obtain ⟨-, h4, h5⟩ := World.cells?_some h2
            have hblk := World.cells?_block h2 g3
            have hs0 : spot = none := by
              have h0 := hel 0 (by omega)
              rw [List.getElem?_eq_getElem (by omega), Option.bind_eq_some_iff, g2, Nat.zero_mul] at h0
              obtain ⟨us0, h6, -⟩ := h0
              obtain ⟨-, h7, h8⟩ := World.cells?_some h6
              have h9 := h8 0 g3
              rw [List.getElem?_eq_getElem (by omega)] at h9
              simpa [Addr.add] using World.cell?_spot h9
            subst hs0
            refine ⟨d, by rw [add_adr] at hblk; exact hblk, rfl, ⟨us, h4, fun j v hj => ?_, r1⟩, r2⟩
            have := h5 j (by rw [← h4]; exact (List.getElem?_eq_some_iff.1 hj).1)
            rw [add_adr, add_adr, hj] at this
            exact this
          obtain ⟨f, hf⟩ := pick each
          have hlen' : (D.of ((List.range len).map f)).len = len := by rw [len_of]; simp
          have hget : ∀ i, i < len → (D.of ((List.range len).map f)).get i = f i := fun i hi => get_of _ _ (by simp [hi])
          refine ⟨.cons (D.of ((List.range len).map f)) .nil, ⟨_, _, rfl, ⟨_, len, cap, rfl, hlen'.symm, hle, fun i hi => ?_⟩, rfl⟩, ⟨⟨by show (D.of _).len ≤ _; omega, fun i hi => ?_⟩, trivial⟩, rfl, rfl⟩
          · obtain ⟨k1, rfl, ⟨us, k2, k3, k4⟩, -⟩ := hf i hi
            exact ⟨b, off, us, rfl, k1, k2, k3, by show R _ _ _ ((D.of _).get i) _; rw [hget i hi]; exact k4⟩
          · have hi : i < len := by rw [← hlen']; exact hi
            show D.wf _ ((D.of _).get i)
            rw [hget i hi]
            exact (hf i hi).2.2.2
      · rename_i fs ht
        rw [ht] at hl3
        simp only [Bool.and_eq_true] at hl3
        obtain ⟨xs, m, e1, -, hlen, hxs, hf⟩ := DataW.trod_struct ht h
        simp only [Nat.succ.injEq] at e1; subst e1
        have := fields_R (P := P) (cs := cs) (off := 0) hl3.1 hl3.2 hc (by omega) fun f hf' c' hc' hr us hus => by
          obtain ⟨i, hi⟩ := List.getElem?_of_mem hf'
          have hi' : fs[i]? = some f := by rw [← Array.getElem?_toList]; exact hi
          have h1 := hf i f hi'
          have hlt : i < xs.length := by rw [hxs]; exact (Array.getElem?_eq_some_iff.1 hi').1
          rw [List.getElem?_eq_getElem hlt] at h1
          subst hus
          exact ih n hc' hr h1
        simpa using this
      · rename_i len e ht
        simp only [Option.map_eq_some_iff] at hc
        obtain ⟨ce, hce, rfl⟩ := hc
        rw [ht] at hl3
        simp only [hce, Bool.and_eq_true, decide_eq_true_eq] at hl3
        obtain ⟨g1, g2, g3⟩ := hl3
        obtain ⟨xs, m, e1, -, hlen, hxs, hf⟩ := DataW.trod_array ht h
        simp only [Nat.succ.injEq] at e1; subst e1
        refine array_R g3 (by rw [hlen, hl1]; exact (chain_rep g3 len).2) fun i hi => ?_
        have h1 := hf i hi
        rw [List.getElem?_eq_getElem (by omega), g2] at h1
        exact ih n hce g1 h1
      · cases hc
end
end
end Go.Sz
