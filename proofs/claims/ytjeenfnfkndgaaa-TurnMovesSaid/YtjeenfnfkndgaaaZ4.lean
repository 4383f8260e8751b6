/- The evaluator: loops of Euclid. -/
import Derived.Test.YtjeenfnfkndgaaaZ3
namespace Go.Sz
open Go
noncomputable section
/-- what Euclid's loop leaves -/
def eucN : Nat → Int → Int → Int
  | 0, a, _ => a
  | n + 1, a, b => if b = 0 then a else eucN n b (a.tmod b)
def euc (a b : Int) : Int := eucN (b.natAbs + 1) a b
theorem eucN_fuel : ∀ (n m : Nat) (a b : Int), b.natAbs < n → b.natAbs < m → eucN n a b = eucN m a b := by
  intro n
  induction n with
  | zero => intro m a b h; omega
  | succ n ih =>
    intro m a b h1 h2
    cases m with
    | zero => omega
    | succ m =>
      simp only [eucN]
      by_cases hb : b = 0
      · simp [hb]
      · rw [if_neg hb, if_neg hb]
        have h : (a.tmod b).natAbs < b.natAbs := by
          rw [Int.natAbs_tmod]; exact Nat.mod_lt _ (by omega)
        exact ih m _ _ (by omega) (by omega)
theorem euc_zero (a : Int) : euc a 0 = a := rfl
theorem euc_step {a b : Int} (h : b ≠ 0) : euc a b = euc b (a.tmod b) := by
  unfold euc
  have h' : (a.tmod b).natAbs < b.natAbs := by
    rw [Int.natAbs_tmod]; exact Nat.mod_lt _ (by omega)
  conv => lhs; unfold eucN
  rw [if_neg h]
  exact eucN_fuel _ _ _ _ (by omega) (by omega)
theorem euc_abs (a b : Int) : (euc a b).natAbs = Int.gcd a b := by
  have : ∀ (n : Nat) (a b : Int), b.natAbs < n → (euc a b).natAbs = Int.gcd a b := by
    intro n
    induction n with
    | zero => intro a b h; omega
    | succ n ih =>
      intro a b h
      by_cases hb : b = 0
      · subst hb; simp [euc_zero]
      · have h' : (a.tmod b).natAbs < b.natAbs := by
          rw [Int.natAbs_tmod]; exact Nat.mod_lt _ (by omega)
        rw [euc_step hb, ih _ _ (by omega)]
        show Nat.gcd b.natAbs (a.tmod b).natAbs = Nat.gcd a.natAbs b.natAbs
        rw [Int.natAbs_tmod, Nat.gcd_comm a.natAbs, Nat.gcd_rec b.natAbs a.natAbs, Nat.gcd_comm]
  exact this _ a b (Nat.lt_succ_self _)
/-- one variable of what goes round again -/
theorem euc_loop {T : Tab} {Lf : Ex → St → BT → Env → Prop} {B : BT} {η : Env} {d n a b : Nat} {s s' : Sub} {t : Tree} (hn : s.n = n) (hn' : s'.n = n) (ha : n ≤ a) (hb : n ≤ b)
    (h1 : look s'.x a = .var b) (h2 : look s'.x b = .o2 .rem (.var a) (.var b))
    (h : ∀ (b' : Env → Sub → Prop) η', Agree n η η' → (η'.d a).int = euc ((look s.x a).d T η).int ((look s.x b).d T η).int → (η'.d b).int = 0 → t.sat T Lf (upd B d b') η') :
    (Tree.loop d n s (.br (.o1 .not (.o2 .eq (.var b) (.lit (.i 0)))) (.need [.o1 .not (.o2 .eq (.var b) (.lit (.i 0)))] (.back d s')) t)).sat T Lf B η := by
  refine ⟨fun η' => euc (η'.d a).int (η'.d b).int = euc ((look s.x a).d T η).int ((look s.x b).d T η).int, fun η' => (η'.d b).int.natAbs, ?_, fun η' hag hJ => ?_⟩
  · show _ = _
    rw [env_d, env_d, hn, if_neg (by omega), if_neg (by omega)]
  · refine ⟨fun hc => ?_, fun hc => ?_⟩
    · refine ⟨fun x hx => by simp at hx; subst hx; exact hc, ?_⟩
      have hc : ¬ (η'.d b).int = 0 := by
        simpa [X.d, den1, den2, D.bool, D.int] using hc
      have e1 : (η'.sub T s').d a = η'.d b := by rw [env_d, hn', if_neg (by omega), h1]; rfl
      have e2 : (η'.sub T s').d b = .i ((η'.d a).int.tmod (η'.d b).int) := by rw [env_d, hn', if_neg (by omega), h2]; rfl
      show upd B d _ d η' s'
      unfold upd
      rw [if_pos rfl]
      refine ⟨?_, ?_⟩
      · show euc _ _ = _
        rw [e1, e2, ← hJ, euc_step hc]; rfl
      · show ((η'.sub T s').d b).int.natAbs < _
        rw [e2]
        show ((η'.d a).int.tmod (η'.d b).int).natAbs < _
        rw [Int.natAbs_tmod]; exact Nat.mod_lt _ (by omega)
    · have hc : (η'.d b).int = 0 := by
        simpa [X.d, den1, den2, D.bool, D.int] using hc
      exact h _ η' hag (by rw [← hJ, hc, euc_zero]) hc
/-- the same, over ints that are not negative: for b > 0 -/
def geuc (a b : Int) : Int := if b ≤ 0 then a else if a < 0 then b else (Int.gcd a b : Nat)
theorem geuc_step {a b : Int} (h : 0 < b) : geuc a b = geuc b (a.tmod b) := by
  unfold geuc
  rw [if_neg (by omega)]
  by_cases ha : a < 0
  · have : a.tmod b ≤ 0 := by
      have : -a.tmod b = (-a).tmod b := by rw [Int.neg_tmod]
      have := Int.tmod_nonneg b (show 0 ≤ -a by omega)
      omega
    rw [if_pos ha, if_pos this]
  · have h0 := Int.tmod_nonneg b (show 0 ≤ a by omega)
    rw [if_neg ha, if_neg (show ¬ b < 0 by omega)]
    have hg : Int.gcd a b = Int.gcd b (a.tmod b) := by
      show Nat.gcd a.natAbs b.natAbs = Nat.gcd b.natAbs (a.tmod b).natAbs
      rw [Int.natAbs_tmod, Nat.gcd_comm a.natAbs, Nat.gcd_rec b.natAbs a.natAbs, Nat.gcd_comm]
    by_cases h1 : a.tmod b ≤ 0
    · rw [if_pos h1, hg, show a.tmod b = 0 by omega, Int.gcd_zero_right]
      omega
    · rw [if_neg h1, hg]
theorem geuc_loop {T : Tab} {Lf : Ex → St → BT → Env → Prop} {B : BT} {η : Env} {d n a b : Nat} {s s' : Sub} {t : Tree} {q : List X} (hn : s.n = n) (hn' : s'.n = n) (ha : n ≤ a) (hb : n ≤ b)
    (h1 : look s'.x a = .var b) (h2 : look s'.x b = .o2 .rem (.var a) (.var b)) (hq : q = [.o1 .not (.o2 .eq (.var b) (.lit (.i 0)))])
    (h : ∀ (b' : Env → Sub → Prop) η', Agree n η η' → (η'.d a).int = geuc ((look s.x a).d T η).int ((look s.x b).d T η).int → (η'.d b).int ≤ 0 → t.sat T Lf (upd B d b') η') :
    (Tree.loop d n s (.br (.o2 .lt (.lit (.i 0)) (.var b)) (.need q (.back d s')) t)).sat T Lf B η := by
  refine ⟨fun η' => geuc (η'.d a).int (η'.d b).int = geuc ((look s.x a).d T η).int ((look s.x b).d T η).int, fun η' => (η'.d b).int.natAbs, ?_, fun η' hag hJ => ?_⟩
  · show _ = _
    rw [env_d, env_d, hn, if_neg (by omega), if_neg (by omega)]
  · refine ⟨fun hc => ?_, fun hc => ?_⟩
    · have hc : 0 < (η'.d b).int := of_decide_eq_true (p := 0 < (η'.d b).int) hc
      refine ⟨fun x hx => by
        rw [hq] at hx; simp at hx; subst hx
        simp [X.d, den1, den2, D.bool, D.int]
        have h' : ¬ (η'.d b).int = 0 := by omega
        simpa [D.int] using h', ?_⟩
      have e1 : (η'.sub T s').d a = η'.d b := by rw [env_d, hn', if_neg (by omega), h1]; rfl
      have e2 : (η'.sub T s').d b = .i ((η'.d a).int.tmod (η'.d b).int) := by rw [env_d, hn', if_neg (by omega), h2]; rfl
      show upd B d _ d η' s'
      unfold upd
      rw [if_pos rfl]
      refine ⟨?_, ?_⟩
      · show geuc _ _ = _
        rw [e1, e2, ← hJ, geuc_step hc]; rfl
      · show ((η'.sub T s').d b).int.natAbs < _
        rw [e2]
        show ((η'.d a).int.tmod (η'.d b).int).natAbs < _
        rw [Int.natAbs_tmod]; exact Nat.mod_lt _ (by omega)
    · have hc : (η'.d b).int ≤ 0 := Int.not_lt.1 (of_decide_eq_false (p := 0 < (η'.d b).int) hc)
      exact h _ η' hag (by rw [← hJ]; unfold geuc; rw [if_pos hc]) hc
end
end Go.Sz
