/- Nums among a row's arguments: their digits, opened. -/
import Derived.Test.YtamibmikbbjjbaaGreatDoorSixRows
import Derived.Test.YtamibmikbbjjbaaGreatDoorPRf
import Derived.ChangeSame
namespace Go.Proofs.YtamibmikbbjjbaaGreatDoor
open Go.ChangeShapes Go.WideShapes Go.ChangeAt Go.RowKit Go.Lib
namespace Six
theorem cellsU : Tryz.prog.cellsOf 80 = 1 := by kernel_rfl
theorem cellsD : Tryz.prog.cellsOf 24 = 1 := by kernel_rfl
theorem cellsN : Tryz.prog.cellsOf 26 = 2 := by kernel_rfl
theorem cellsB : Tryz.prog.cellsOf 4 = 1 := by kernel_rfl
theorem cellsN2 : Tryz.prog.cellsOf 27 = 4 := by kernel_rfl
section
variable {H : Type} {enc : TypeId × Value → H} {P : Program} {w : World} {base : Nat} {spare : Nat → Bool} {held : Bool}
theorem trod_array22 {t e : TypeId} {fuel : Nat} {c0 c1 c2 c3 : Value} {x : DataW H × List MemPlace} (ht : P.underlying t = some (.array 2 e)) (hce : P.cellsOf e = 2)
    (h : DataW.trod enc P w base spare held fuel t [c0, c1, c2, c3] = some x) :
    ∃ y0 y1 n, DataW.trod enc P w base spare held n e [c0, c1] = some y0 ∧ DataW.trod enc P w base spare held n e [c2, c3] = some y1 := by
  cases fuel with
  | zero => simp [DataW.trod] at h
  | succ n =>
    unfold DataW.trod at h
    rw [ht] at h
    have r2 : List.range 2 = [0, 1] := rfl
    simp [r2, hce] at h
    obtain ⟨_, h⟩ := h
    cases h0 : DataW.trod enc P w base spare held n e [c0, c1] with
    | none => simp [h0] at h
    | some y0 =>
      cases h1 : DataW.trod enc P w base spare held n e [c2, c3] with
      | none => simp [h0, h1] at h
      | some y1 => exact ⟨y0, y1, n, h0, h1⟩
theorem trod_bool_cell {t : TypeId} {fuel : Nat} {c : Value} {x : DataW H × List MemPlace} (ht : P.underlying t = some .bool) (h : DataW.trod enc P w base spare held fuel t [c] = some x) : ∃ s, c = .bool s := by
  cases fuel with
  | zero => simp [DataW.trod] at h
  | succ m =>
    unfold DataW.trod at h
    rw [ht] at h
    split at h <;> simp_all
theorem trod_two {t : TypeId} {f0 f1 : Field} {fuel : Nat} {c0 c1 : Value} {x : DataW H × List MemPlace} (ht : P.underlying t = some (.struct #[f0, f1])) (o0 : f0.offset = 0) (o1 : f1.offset = 1) (s0 : P.cellsOf f0.type = 1) (s1 : P.cellsOf f1.type = 1)
    (h : DataW.trod enc P w base spare held fuel t [c0, c1] = some x) : ∃ y0 y1 n, DataW.trod enc P w base spare held n f0.type [c0] = some y0 ∧ DataW.trod enc P w base spare held n f1.type [c1] = some y1 := by
  obtain ⟨y0, y1, n, _, _, h0, h1⟩ := trod_struct2 ht h
  rw [o0, s0] at h0
  rw [o1, s1] at h1
  exact ⟨y0, y1, n, h0, h1⟩
end
/-- a slice of digits in a cell -/
theorem digs_cell {H : Type} {enc : TypeId × Value → H} {W : World} {n : Nat} {c : Value} {y : DataW H × List MemPlace} (h : DataW.trod enc Tryz.prog W 0 (fun _ => true) true n 24 [c] = some y) :
    ∃ (a : Option Addr) (L k : Nat), c = .slice a L k ∧ L ≤ k ∧ (a = none → L = 0 ∧ k = 0) ∧ Raw W a L := by
  rcases open_ints Tryz.underlying24 Tryz.underlying80 cellsU h with ⟨hcs, _⟩ | ⟨a, L, k, zs, hcs, _, hl, hm, hlen, _, hcell, hwf⟩
  · simp only [List.cons.injEq, and_true] at hcs
    exact ⟨none, 0, 0, hcs, by omega, (fun _ => ⟨rfl, rfl⟩), fun _ => 0, .inl rfl, fun _ h => by omega⟩
  · simp only [List.cons.injEq, and_true] at hcs
    simp only [if_true] at hlen
    obtain ⟨b, off, spot⟩ := a
    have hz : ∀ j, j < zs.length → 0 ≤ zs.getD j 0 ∧ zs.getD j 0 < 4294967296 := fun j hj => by
      have hw := hwf (zs.getD j 0) (by rw [List.getD_eq_getElem?_getD, List.getElem?_eq_getElem hj]; exact List.getElem_mem hj)
      simp [Lit.wf, IntKind.min, IntKind.max, IntKind.signed, IntKind.bits] at hw
      simp only [List.getD_eq_getElem?_getD]
      omega
    refine ⟨_, L, k, hcs, hl, (fun e => by cases e), fun j => (zs.getD j 0).toNat, ?_, fun j hj => by have := hz j (by omega); show (zs.getD j 0).toNat < 4294967296; omega⟩
    by_cases hL : L = 0
    · exact .inl hL
    · have hspot : spot = none := by simpa [Addr.add] using World.cell?_spot (hcell 0 (by omega))
      subst hspot
      exact .inr ⟨b, off, rfl, fun j hj => by
        have h := hcell j (by omega)
        have h2 := hz j (by omega)
        rw [show (⟨b, off, none⟩ : Addr).add j = ⟨b, off + j, none⟩ from by
          rcases Nat.eq_zero_or_pos j with rfl | hp
          · rfl
          · simp [Addr.add, Nat.ne_of_gt hp]] at h
        rw [h]
        show _ = some (Value.int .u32 (((zs.getD j 0).toNat : Nat) : Int))
        rw [Int.toNat_of_nonneg h2.1]⟩
/-- a Num in two cells -/
theorem num_cells {H : Type} {enc : TypeId × Value → H} {W : World} {n : Nat} {c0 c1 : Value} {y : DataW H × List MemPlace} (h : DataW.trod enc Tryz.prog W 0 (fun _ => true) true n 26 [c0, c1] = some y) :
    ∃ (s : Bool) (a : Option Addr) (L k : Nat), c0 = .bool s ∧ c1 = .slice a L k ∧ L ≤ k ∧ (a = none → L = 0 ∧ k = 0) ∧ Raw W a L := by
  obtain ⟨y0, y1, m, h0, h1⟩ := trod_two Tryz.underlying26 rfl rfl cellsB cellsD h
  obtain ⟨a, L, k, hc, h2, h3, h4⟩ := digs_cell h1
  obtain ⟨s, hs⟩ := trod_bool_cell Tryz.underlying4 h0
  exact ⟨s, a, L, k, hs, hc, h2, h3, h4⟩
set_option maxRecDepth 100000 in
theorem open_nums {H : Type} {enc : TypeId × Value → H} {W : World} {r : Reach} {b0 : Nat} {v : Value} {d : DataW H} {p : List MemPlace} (hv : Value.okWide Tryz.prog W r b0 27 v) (h : DataW.Trod enc Tryz.prog W 0 (fun _ => true) true 27 v d p) :
    ∃ (t0 t1 : Bool) (r0 r1 : Option Addr) (m0 m1 e0 e1 : Nat), v = .agg #[.bool t0, .slice r0 m0 e0, .bool t1, .slice r1 m1 e1] ∧ m0 ≤ e0 ∧ m1 ≤ e1 ∧ (r0 = none → m0 = 0 ∧ e0 = 0) ∧ (r1 = none → m1 = 0 ∧ e1 = 0) ∧ Raw W r0 m0 ∧ Raw W r1 m1 := by
  obtain ⟨cs, rfl, hsz⟩ := okWide_array Tryz.underlying27 hv
  obtain ⟨c0, c1, c2, c3, rfl⟩ : ∃ c0 c1 c2 c3, cs = #[c0, c1, c2, c3] := by
    have h4 := hsz.trans cellsN2
    obtain ⟨l⟩ := cs
    match l, h4 with
    | [c0, c1, c2, c3], _ => exact ⟨c0, c1, c2, c3, rfl⟩
  obtain ⟨fuel, hf⟩ := h
  obtain ⟨y0, y1, n, h0, h1⟩ := trod_array22 Tryz.underlying27 cellsN (c0 := c0) (c1 := c1) (c2 := c2) (c3 := c3) (by simpa only [Value.cells] using hf)
  obtain ⟨t0, r0, m0, e0, rfl, rfl, a0, b0, k0⟩ := num_cells h0
  obtain ⟨t1, r1, m1, e1, rfl, rfl, a1, b1, k1⟩ := num_cells h1
  exact ⟨t0, t1, r0, r1, m0, m1, e0, e1, rfl, a0, a1, b0, b1, k0, k1⟩
end Six
end Go.Proofs.YtamibmikbbjjbaaGreatDoor
