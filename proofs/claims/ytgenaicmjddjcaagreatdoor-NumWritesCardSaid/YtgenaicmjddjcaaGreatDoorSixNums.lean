/- Nums among a row's arguments: their digits, opened. -/
import Derived.Test.YtgenaicmjddjcaaGreatDoorSixRows
import Derived.Test.YtgenaicmjddjcaaGreatDoorPRf
import Derived.ChangeSame
namespace Go.Proofs.YtgenaicmjddjcaaGreatDoor
open Go.ChangeShapes Go.WideShapes Go.ChangeAt Go.RowKit Go.Lib
namespace Six
theorem cellsU : Tryz.prog.cellsOf 68 = 1 := by kernel_rfl
theorem cellsD : Tryz.prog.cellsOf 23 = 1 := by kernel_rfl
theorem cellsN : Tryz.prog.cellsOf 25 = 2 := by kernel_rfl
theorem cellsB : Tryz.prog.cellsOf 4 = 1 := by kernel_rfl
section
variable {H : Type} {enc : TypeId × Value → H} {P : Program} {w : World} {base : Nat} {spare : Nat → Bool} {held : Bool}
theorem trod_bool_cell {t : TypeId} {fuel : Nat} {c : Value} {x : DataW H × List MemPlace} (ht : P.underlying t = some .bool) (h : DataW.trod enc P w base spare held fuel t [c] = some x) : ∃ s, c = .bool s := by
 cases fuel with
 | zero => simp [DataW.trod] at h
 | succ m =>
   unfold DataW.trod at h
   rw [ht] at h
   split at h <;> simp_all
theorem trod_two {t : TypeId} {f0 f1 : Field} {fuel : Nat} {c0 c1 : Value} {x : DataW H × List MemPlace} (ht : P.underlying t = some (.struct #[f0, f1])) (o0 : f0.offset = 0) (o1 : f1.offset = 1) (s0 : P.cellsOf f0.type = 1) (s1 : P.cellsOf f1.type = 1)
 (h : DataW.trod enc P w base spare held fuel t [c0, c1] = some x) : ∃ y0 y1 n, DataW.trod enc P w base spare held n f0.type [c0] = some y0 ∧ DataW.trod enc P w base spare held n f1.type [c1] = some y1 := by
 obtain ⟨y0, y1, n, _, _, h0, h1⟩ := trod_struct2 ht h
 rw [o0, s0] at h0
 rw [o1, s1] at h1
 exact ⟨y0, y1, n, h0, h1⟩
end
theorem digs_cell {H : Type} {enc : TypeId × Value → H} {W : World} {n : Nat} {c : Value} {y : DataW H × List MemPlace} (h : DataW.trod enc Tryz.prog W 0 (fun _ => true) true n 23 [c] = some y) :
 ∃ (a : Option Addr) (L k : Nat), c = .slice a L k ∧ L ≤ k ∧ (a = none → L = 0 ∧ k = 0) ∧ Raw W a L := by
 rcases open_ints Tryz.underlying23 Tryz.underlying68 cellsU h with ⟨hcs, _⟩ | ⟨a, L, k, zs, hcs, _, hl, hm, hlen, _, hcell, hwf⟩
 · simp only [List.cons.injEq, and_true] at hcs
   exact ⟨none, 0, 0, hcs, by omega, (fun _ => ⟨rfl, rfl⟩), fun _ => 0, .inl rfl, fun _ h => by omega⟩
 · simp only [List.cons.injEq, and_true] at hcs
   simp only [if_true] at hlen
   obtain ⟨b, off, spot⟩ := a
   have hz : ∀ j, j < zs.length → 0 ≤ zs.getD j 0 ∧ zs.getD j 0 < 4294967296 := fun j hj => by
    have hw := hwf (zs.getD j 0) (by rw [List.getD_eq_getElem?_getD, List.getElem?_eq_getElem hj]; exact List.getElem_mem hj)
    simp [Lit.wf, IntKind.min, IntKind.max, IntKind.signed, IntKind.bits] at hw
    simp only [List.getD_eq_getElem?_getD]
    omega
   refine ⟨_, L, k, hcs, hl, (fun e => by cases e), fun j => (zs.getD j 0).toNat, ?_, fun j hj => by have := hz j (by omega); show (zs.getD j 0).toNat < 4294967296; omega⟩
   by_cases hL : L = 0
   · exact .inl hL
   · have hspot : spot = none := by simpa [Addr.add] using World.cell?_spot (hcell 0 (by omega))
     subst hspot
     exact .inr ⟨b, off, rfl, fun j hj => by
      have h := hcell j (by omega)
      have h2 := hz j (by omega)
      rw [show (⟨b, off, none⟩ : Addr).add j = ⟨b, off + j, none⟩ from by
       rcases Nat.eq_zero_or_pos j with rfl | hp
       · rfl
       · simp [Addr.add, Nat.ne_of_gt hp]] at h
      rw [h]
      show _ = some (Value.int .u32 (((zs.getD j 0).toNat : Nat) : Int))
      rw [Int.toNat_of_nonneg h2.1]⟩
theorem num_cells {H : Type} {enc : TypeId × Value → H} {W : World} {n : Nat} {c0 c1 : Value} {y : DataW H × List MemPlace} (h : DataW.trod enc Tryz.prog W 0 (fun _ => true) true n 25 [c0, c1] = some y) :
 ∃ (s : Bool) (a : Option Addr) (L k : Nat), c0 = .bool s ∧ c1 = .slice a L k ∧ L ≤ k ∧ (a = none → L = 0 ∧ k = 0) ∧ Raw W a L := by
 obtain ⟨y0, y1, m, h0, h1⟩ := trod_two Tryz.underlying25 rfl rfl cellsB cellsD h
 obtain ⟨a, L, k, hc, h2, h3, h4⟩ := digs_cell h1
 obtain ⟨s, hs⟩ := trod_bool_cell Tryz.underlying4 h0
 exact ⟨s, a, L, k, hs, hc, h2, h3, h4⟩
end Six
end Go.Proofs.YtgenaicmjddjcaaGreatDoor
