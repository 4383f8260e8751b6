/- The evaluator: what comes back. -/
import Derived.Test.YtjeenfnfkndgaaaZW
namespace Go.Sz
open Go Go.RowKit
noncomputable section
/- values of old variables alone -/
def Sc.low (n : Nat) : Sc → Bool
  | .int _ x | .bool x | .str x | .lst _ x | .rp _ _ x _ | .lp _ x => x.low n
  | _ => true
def SV.low (n : Nat) : SV → Bool
  | .v x => x.cells.all (Sc.low n)
  | .tup l => l.all fun x => x.cells.all (Sc.low n)
def Blk.low (n : Nat) : Blk → Bool
  | .box l => l.all (Sc.low n)
  | .row _ _ x | .froz _ x => x.low n
def Con.low (n : Nat) (c : Con) : Bool := c.res.low n && c.nw.all (Blk.low n) && c.post.all fun | some b => b.low n | none => true
section
variable {P : Program} {T : Tab} {η η' : Env} {ρ ρ' : Plc} {S : List Nat} {w0 : World} {Z0 Z Z' : Nat → Prop} {n m M d : Nat} {a : Act} {w w' : World} {F : Fs} {K : List Con} {σ : St}
theorem Sc.V.low (h : Agree n η η') {c : Sc} {v : Value} (hc : c.low n = true) (hv : c.V T η' ρ w Z v) : c.V T η ρ w Z v := by
  cases c <;> simp only [Sc.low] at hc <;> simp only [Sc.V] at hv ⊢
  case opq => rw [← h.v]; exact hv
  case own => exact hv
  case ptr => exact hv
  case nilp => exact hv
  case nils => exact hv
  case fn => exact hv
  all_goals rw [← low_d h hc]; exact hv
theorem VL.low (h : Agree n η η') : ∀ {l : List Sc} {vs : List Value}, l.all (Sc.low n) = true → VL T η' ρ w Z l vs → VL T η ρ w Z l vs
  | [], _, _, hv => hv
  | c :: l, _, hc, ⟨v, us, h1, h2, h3⟩ => by
    simp only [List.all_cons, Bool.and_eq_true] at hc
    exact ⟨v, us, h1, h2.low h hc.1, VL.low h hc.2 h3⟩
theorem S1.V.low (h : Agree n η η') {c : S1} {v : Value} (hc : c.cells.all (Sc.low n) = true) (hv : c.V T η' ρ w Z v) : c.V T η ρ w Z v := by
  cases c with
  | one c => exact Sc.V.low h (by simpa [S1.cells] using hc) hv
  | agg l => obtain ⟨vs, h1, h2⟩ := hv; exact ⟨vs, h1, VL.low h hc h2⟩
theorem VT.low (h : Agree n η η') : ∀ {l : List S1} {vs : List Value}, (l.all fun x => x.cells.all (Sc.low n)) = true → VT T η' ρ w Z l vs → VT T η ρ w Z l vs
  | [], _, _, hv => hv
  | c :: l, _, hc, ⟨v, us, h1, h2, h3⟩ => by
    simp only [List.all_cons, Bool.and_eq_true] at hc
    exact ⟨v, us, h1, h2.low h hc.1, VT.low h hc.2 h3⟩
theorem SV.V.low (h : Agree n η η') {c : SV} {v : Value} (hc : c.low n = true) (hv : c.V T η' ρ w Z v) : c.V T η ρ w Z v := by
  cases c with
  | v x => exact S1.V.low h hc hv
  | tup l => obtain ⟨vs, h1, h2⟩ := hv; exact ⟨vs, h1, VT.low h hc h2⟩
theorem Blk.V.low (h : Agree n η η') {b : Blk} {q : Pl} (hc : b.low n = true) (hv : b.V T η' ρ w Z q) : b.V T η ρ w Z q := by
  cases b with
  | box l => obtain ⟨h1, h2, vs, h3, h4⟩ := hv; exact ⟨h1, h2, vs, VL.low h hc h3, h4⟩
  | row t e x => simp only [Blk.V] at hv ⊢; simp only [Blk.low] at hc; rw [low_d h hc] at hv; exact hv
  | froz e x => simp only [Blk.V] at hv ⊢; simp only [Blk.low] at hc; rw [low_d h hc] at hv; exact hv
/- results -/
def resSem (a : Act) : ResultVar → Sem Value
  | .tmp t => pure (a.tmps.getD t undef)
  | .cell t ty => do loadVar ty (← asAddr (a.tmps.getD t undef))
theorem results_eq (fn : Func) : results fn a.tmps = (fn.results.mapM (resSem a) >>= fun vs => pure (if h : vs.size = 1 then vs[0] else .tuple vs)) := by
  have : (fun r => match r with | ResultVar.tmp t => (pure (a.tmps.getD t undef) : Sem Value) | ResultVar.cell t ty => (do loadVar ty (← asAddr (a.tmps.getD t undef)) : Sem Value)) = resSem a := by
    funext r; cases r <;> rfl
  rw [← this]
  rfl
theorem Lies.one (hl : Lies T η S Z0 w0 σ ρ Z a w) {t : Nat} {c : Sc} (h : one? (σ.sl.getD t none) = some c) : c.V T η ρ w Z (a.tmps.getD t undef) := by
  unfold one? at h
  split at h
  · rename_i c' hx
    simp at h; subst h
    exact hl.1.sl _ _ hx
  · cases h
theorem run_res {r : ResultVar} {x : S1} (h : resOf P σ r = some x) (hl : Lies T η S Z0 w0 σ ρ Z a w) : ∃ v, (resSem a r).run P w = .ok v w ∧ x.V T η ρ w Z v := by
  cases r with
  | tmp t =>
    simp only [resOf] at h
    split at h
    · rename_i y hy
      simp at h; subst h
      exact ⟨_, rfl, hl.1.sl t _ hy⟩
    · cases h
  | cell t ty =>
    simp only [resOf] at h
    split at h
    · rename_i id off n ht hg hs
      split at h
      · rename_i cs hb
        split at h
        · rename_i hle
          simp at h; subst h
          have hv := hl.one ht
          obtain ⟨-, hv⟩ := hv
          obtain ⟨-, -, vs, h3, h4⟩ := hl.1.mem.bk id _ hb
          have hlen := h3.len
          have hat : At w (ρ id).b ((ρ id).off + off) ((vs.drop off).take n) := fun j v hj => by
            have hj' : vs[off + j]? = some v := by
              rw [List.getElem?_take] at hj
              split at hj
              · rwa [List.getElem?_drop] at hj
              · cases hj
            have := (h4 _ _ hj').1
            rwa [← Nat.add_assoc] at this
          have := hat.load (P := P)
          rw [show ((vs.drop off).take n).length = n by simp; omega] at this
          refine ⟨.agg ((vs.drop off).take n).toArray, ?_, _, rfl, VL.take n (VL.drop off h3)⟩
          simp [resSem, hv, asAddr, loadVar, run_agg hg, run_size hs, this]
        · cases h
      · cases h
    · rename_i _ id off ht hg
      split at h
      · rename_i cs hb
        simp only [Option.map_eq_some_iff] at h
        obtain ⟨c, hc, rfl⟩ := h
        have hv := hl.one ht
        obtain ⟨-, hv⟩ := hv
        obtain ⟨-, -, vs, h3, h4⟩ := hl.1.mem.bk id _ hb
        obtain ⟨v, g1, g2⟩ := h3.get hc
        have := (h4 _ _ g1).1
        exact ⟨v, by simp [resSem, hv, asAddr, loadVar, run_agg hg, this], g2⟩
      · cases h
    · cases h
theorem run_ress : ∀ {l : List ResultVar} {xs : List S1}, ressOf P σ l = some xs → Lies T η S Z0 w0 σ ρ Z a w → ∃ vs, (l.mapM (resSem a)).run P w = .ok vs w ∧ VT T η ρ w Z xs vs
  | [], xs, h, _ => by simp [ressOf] at h; subst h; exact ⟨[], by simp, rfl⟩
  | r :: l, xs, h, hl => by
    simp only [ressOf] at h
    split at h
    · rename_i x ys h1 h2
      simp at h; subst h
      obtain ⟨v, g1, g2⟩ := run_res h1 hl
      obtain ⟨vs, g3, g4⟩ := run_ress h2 hl
      refine ⟨v :: vs, ?_, v, vs, rfl, g2, g4⟩
      rw [List.mapM_cons, Sem.run_bind, g1, Result.andThen_ok, Sem.run_bind, g3, Result.andThen_ok]
      simp
    · cases h
theorem run_result {fn : Func} {v : SV} (h : resultOf P σ fn = some v) (hl : Lies T η S Z0 w0 σ ρ Z a w) : ∃ u, (results fn a.tmps).run P w = .ok u w ∧ v.V T η ρ w Z u := by
  have e : ∀ (xs : List Value), (fn.results.toList.mapM (resSem a)).run P w = .ok xs w → (results fn a.tmps).run P w = .ok (if hh : xs.length = 1 then xs[0] else .tuple xs.toArray) w := by
    intro xs hx
    rw [results_eq, Sem.run_bind, Array.mapM_eq_mapM_toList, Sem.run_map, hx]
    simp
  unfold resultOf at h
  split at h
  · rename_i t ht
    have := hl.1.sl t v h
    refine ⟨_, e [a.tmps.getD t undef] (by rw [ht]; simp [resSem]), ?_⟩
    simpa using this
  · split at h
    · rename_i x hx
      simp at h; subst h
      obtain ⟨vs, g1, u, us, rfl, g3, g4⟩ := run_ress hx hl
      simp only [VT] at g4; subst g4
      exact ⟨u, by rw [e _ g1]; simp, g3⟩
    · rename_i xs hne hx
      simp at h; subst h
      obtain ⟨vs, g1, g2⟩ := run_ress hx hl
      refine ⟨_, e _ g1, ?_⟩
      have hlen := VT.len g2
      rw [dif_neg]
      · exact ⟨vs, rfl, g2⟩
      · intro hl1
        rw [hlen] at hl1
        obtain ⟨x, rfl⟩ := List.length_eq_one_iff.1 hl1
        exact hne x rfl
    · cases h
end
end
end Go.Sz
