/- The evaluator: counting loops. -/
import Derived.Test.YtjeenfnfkndgaaaZ5
namespace Go.Sz
open Go
noncomputable section
abbrev LF : Ex → St → BT → Env → Prop := fun _ _ _ _ => False
section
variable {T : Tab}
theorem sat_B : ∀ {t : Tree} {B B' : BT} {η : Env}, (∀ k η s, B k η s → B' k η s) → t.sat T LF B η → t.sat T LF B' η := by
  intro t
  induction t with
  | leaf e σ => exact fun _ h => h
  | br c t e iht ihe => exact fun hB h => ⟨fun hc => iht hB (h.1 hc), fun hc => ihe hB (h.2 hc)⟩
  | need l t ih => exact fun hB h => ⟨h.1, ih hB h.2⟩
  | bad _ => exact fun _ h => h
  | loop d n s t ih =>
    rintro B B' η hB ⟨J, μ, h1, h2⟩
    refine ⟨J, μ, h1, fun η' ha hj => ih (fun k η s h => ?_) (h2 η' ha hj)⟩
    unfold upd at h ⊢
    split
    · rename_i hk; rw [if_pos hk] at h; exact h
    · rename_i hk; rw [if_neg hk] at h; exact hB _ _ _ h
  | back d s => exact fun hB h => hB _ _ _ h
  | join t c m iht ihm => exact fun hB h => ⟨iht hB h.1, fun hc => ihm hB (h.2 hc)⟩
  | met => exact fun _ h => h
  | fin q => exact fun _ h => h
/-- for v := 0; v < N; v++ -/
theorem count_loop {B : BT} {η : Env} {d n : Nat} {s : Sub} {t e : Tree} {v : Nat} (N : Nat) (J : Nat → Env → Prop) (hi : (η.sub T s).d v = .i 0) (h0 : J 0 (η.sub T s))
    (hround : ∀ (k : Nat) (η' : Env), k < N → Agree n η η' → η'.d v = .i (k : Int) → J k η' → t.sat T LF (upd B d fun η'' s' => (η''.sub T s').d v = .i ((k + 1 : Nat) : Int) ∧ J (k + 1) (η''.sub T s')) η')
    (hexit : ∀ (η' : Env) (b : Env → Sub → Prop), Agree n η η' → η'.d v = .i (N : Int) → J N η' → e.sat T LF (upd B d b) η') :
    (Tree.loop d n s (.br (.o2 .lt (.var v) (.lit (.i (N : Int)))) t e)).sat T LF B η := by
  refine ⟨fun η' => ∃ k : Nat, k ≤ N ∧ η'.d v = .i (k : Int) ∧ J k η', fun η' => N - (η'.d v).int.toNat, ⟨0, Nat.zero_le _, hi, h0⟩, fun η' ha ⟨k, hk, hv, hj⟩ => ⟨fun hc => ?_, fun hc => ?_⟩⟩
  · have hc : (η'.d v).int < (N : Int) := of_decide_eq_true (p := (η'.d v).int < (N : Int)) hc
    rw [hv] at hc
    have hc : (k : Int) < (N : Int) := hc
    refine sat_B (fun j η'' s' h => ?_) (hround k η' (by omega) ha hv hj)
    unfold upd at h ⊢
    split
    · rename_i hjd
      rw [if_pos hjd] at h
      obtain ⟨h1, h2⟩ := h
      refine ⟨⟨k + 1, by omega, h1, h2⟩, ?_⟩
      simp only
      rw [h1, hv]
      show N - ((k + 1 : Nat) : Int).toNat < N - (k : Int).toNat
      omega
    · rename_i hjd; rw [if_neg hjd] at h; exact h
  · have hc : ¬ (η'.d v).int < (N : Int) := of_decide_eq_false (p := (η'.d v).int < (N : Int)) hc
    rw [hv] at hc
    have hc : ¬ (k : Int) < (N : Int) := hc
    have : k = N := by omega
    subst this
    exact hexit η' _ ha hv hj
theorem w64 {n : Int} (h1 : -9223372036854775808 ≤ n) (h2 : n ≤ 9223372036854775807) : IntKind.i64.wrap n = n := by
  have e : IntKind.i64.wrap n = if n % 18446744073709551616 ≥ 9223372036854775808 then n % 18446744073709551616 - 18446744073709551616 else n % 18446744073709551616 := by
    unfold IntKind.wrap
    by_cases h : n % 18446744073709551616 ≥ 9223372036854775808
    · rw [if_pos h]; exact if_pos (by simpa [IntKind.bits, IntKind.signed] using h)
    · rw [if_neg h]; exact if_neg (by simpa [IntKind.bits, IntKind.signed] using h)
  rw [e]; omega
theorem need_idx {η : Env} {x : X} {n : Int} (h0 : 0 ≤ (x.d T η).int) (h1 : (x.d T η).int < n) : ∀ y ∈ [X.o2 .le (.lit (.i 0)) x, .o2 .lt x (.lit (.i n))], (y.d T η).bool = true := by
  intro y hy
  simp only [List.mem_cons, List.not_mem_nil, or_false] at hy
  rcases hy with rfl | rfl
  · exact decide_eq_true h0
  · exact decide_eq_true h1
theorem need_le {η : Env} {x y : X} (h : (x.d T η).int ≤ (y.d T η).int) : ∀ z ∈ [X.o2 .le x y], (z.d T η).bool = true := by
  intro z hz
  simp only [List.mem_singleton] at hz
  subst hz
  exact decide_eq_true h
theorem need_one {η : Env} {x : X} (h : (x.d T η).bool = true) : ∀ y ∈ [x], (y.d T η).bool = true := by
  intro y hy
  simp only [List.mem_singleton] at hy
  rw [hy]; exact h
end
end
end Go.Sz
