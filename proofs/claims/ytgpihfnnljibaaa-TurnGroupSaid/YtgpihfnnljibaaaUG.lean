/- TurnGroup is true. -/
import Derived.Test.YtgpihfnnljibaaaZZ
import Derived.Test.YtgpihfnnljibaaaUF0
import Derived.Test.YtgpihfnnljibaaaUF1
import Derived.Test.YtgpihfnnljibaaaUF2
import Derived.Test.YtgpihfnnljibaaaUF3
import Derived.Test.YtgpihfnnljibaaaUF4
import Derived.Test.YtgpihfnnljibaaaUF5
import Derived.Test.YtgpihfnnljibaaaRows
namespace Go.Proofs.Ytgpihfnnljibaaa
open Go Go.Sz Go.RowKit

theorem tgE (a b : Nat) (ha : a < 24) (hb : b < 24) : tgTail.runR (tabF F12) (env2 a b).d = true := by
  have key : ∀ {f : Nat → Bool} {n : Nat}, (List.range n).all f = true → ∀ k, k < n → f k = true := fun h k hk => List.all_eq_true.1 h k (List.mem_range.2 hk)
  match a, ha with
  | 0, _ => exact key tgE0 b hb
  | 1, _ => exact key tgE1 b hb
  | 2, _ => exact key tgE2 b hb
  | 3, _ => exact key tgE3 b hb
  | 4, _ => exact key tgE4 b hb
  | 5, _ => exact key tgE5 b hb
  | 6, _ => exact key tgE6 b hb
  | 7, _ => exact key tgE7 b hb
  | 8, _ => exact key tgE8 b hb
  | 9, _ => exact key tgE9 b hb
  | 10, _ => exact key tgE10 b hb
  | 11, _ => exact key tgE11 b hb
  | 12, _ => exact key tgE12 b hb
  | 13, _ => exact key tgE13 b hb
  | 14, _ => exact key tgE14 b hb
  | 15, _ => exact key tgE15 b hb
  | 16, _ => exact key tgE16 b hb
  | 17, _ => exact key tgE17 b hb
  | 18, _ => exact key tgE18 b hb
  | 19, _ => exact key tgE19 b hb
  | 20, _ => exact key tgE20 b hb
  | 21, _ => exact key tgE21 b hb
  | 22, _ => exact key tgE22 b hb
  | 23, _ => exact key tgE23 b hb
  | a + 24, h => omega
theorem tg_rem {n : Int} (h0 : 0 ≤ n) (h1 : n ≤ 255) : (IntKind.i64.wrap n).tmod 24 = ((n % 24).toNat : Int) := by
  rw [w64 (by omega) (by omega), Int.tmod_eq_emod_of_nonneg h0]; omega
set_option maxRecDepth 100000 in
theorem group_c {T : Tab} (hF : Fs.ok F12 T) : group_k.Ok Try.prog T :=
  con_tree (K := [l11_sanity_k, turn_All_k, turn_Valid_n_k, l11_before_k, turn_After_n_k, turn_Back_n_k, l11_in_n_k]) (nb := 2) (fuel := 110) (sym := [0]) (.loop 0 2 { n := 2, x := [(0, .var 0), (1, .var 1), (2, .lit (.i 0)), (0, .var 0), (1, .var 1)], id := [(0, 0), (1, 1), (1, 1), (1, 1), (1, 1)] } (.br (.o2 .lt (.var 2) (.lit (.i 24))) tgBody (tgTail.put tgL))) mixed_ hF (conCons (l11_sanity_c hF.tail) (conCons (turn_All_c hF.tail) (conCons (turn_Valid_n_c hF.tail.tail.tail.tail.tail.tail.tail) (conCons (l11_before_c hF.tail) (conCons (turn_After_n_c hF.tail) (conCons (turn_Back_n_c hF.tail.tail) (conCons (l11_in_n_c hF) conNil))))))) (by kernel_rfl) (by kernel_rfl) fun η hneed => by
    have n0 : 0 ≤ (η.d 0).int := of_decide_eq_true (hneed _ (.head _))
    have n1 : (η.d 0).int ≤ 255 := of_decide_eq_true (hneed _ (.tail _ (.head _)))
    have n2 : 0 ≤ (η.d 1).int := of_decide_eq_true (hneed _ (.tail _ (.tail _ (.head _))))
    have n3 : (η.d 1).int ≤ 255 := of_decide_eq_true (hneed _ (.tail _ (.tail _ (.tail _ (.head _)))))
    have hbk : tgBody.bks = [(0, { n := 2, x := [(0, .var 0), (1, .var 1), (2, .o2 (.add .i64) (.var 2) (.lit (.i 1))), (0, .var 0), (1, .var 1)], id := [(0, 0), (1, 1), (1, 1), (1, 1), (1, 1)] })] := by kernel_rfl
    refine count_loop 24 (fun _ _ => True) rfl trivial (fun k η0 hk ag0 i0 _ => ?_) (fun η0 b0 ag0 i0 _ => ?_)
    · refine run_sat (p := fun j => j == 2) (η' := env1 k) hF (by kernel_rfl) (fun j hj => ?_) (List.all_eq_true.1 tgB k (List.mem_range.2 hk)) (fun q hq => ?_)
      · have : j = 2 := by simpa using hj
        subst this; exact i0.symm
      · rw [hbk] at hq
        simp only [List.mem_singleton] at hq
        subst hq
        refine ⟨?_, trivial⟩
        show D.i (IntKind.i64.wrap ((η0.d 2).int + 1)) = _
        rw [i0]
        show D.i (IntKind.i64.wrap ((k : Int) + 1)) = _
        rw [w64 (by omega) (by omega)]; rfl
    · have e0 := ag0.d 0 (by omega)
      have e1 := ag0.d 1 (by omega)
      refine put_sat (l := tgL) (p := fun j => j == 100 || j == 101) (η' := env2 ((η.d 0).int % 24).toNat ((η.d 1).int % 24).toNat) hF rfl (by kernel_rfl) (fun j hj => ?_) (tgE _ _ (by omega) (by omega)) (fun q hq => ?_)
      · have : j = 100 ∨ j = 101 := by simpa using hj
        rcases this with rfl | rfl
        · show D.i (((η.d 0).int % 24).toNat : Int) = D.i ((IntKind.i64.wrap (η0.d 0).int).tmod 24)
          rw [e0, tg_rem n0 n1]
        · show D.i (((η.d 1).int % 24).toNat : Int) = D.i ((IntKind.i64.wrap (η0.d 1).int).tmod 24)
          rw [e1, tg_rem n2 n3]
      · have hb : (tgTail.put tgL).bks = [] := by kernel_rfl
        rw [hb] at hq; cases hq
end Go.Proofs.Ytgpihfnnljibaaa
