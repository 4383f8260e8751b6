/- The evaluator: its expressions speak true. -/
import Derived.Test.YtjeenfnfkndgaaaZE
namespace Go.Sz
open Go
noncomputable section
namespace D
theorem drop_zero (d : D) : d.drop 0 = d := by cases d <;> rfl
theorem drop_nil : ∀ k, D.nil.drop k = .nil
  | 0 => rfl
  | _ + 1 => rfl
theorem drop_drop : ∀ (d : D) (a c : Nat), (d.drop a).drop c = d.drop (a + c)
  | d, 0, c => by rw [drop_zero, Nat.zero_add]
  | .cons _ t, a + 1, c => by
    rw [show a + 1 + c = (a + c) + 1 by omega]
    exact drop_drop t a c
  | .nil, a + 1, c => by rw [show a + 1 + c = (a + c) + 1 by omega]; exact drop_nil c
  | .i _, a + 1, c => by rw [show a + 1 + c = (a + c) + 1 by omega]; exact drop_nil c
  | .b _, a + 1, c => by rw [show a + 1 + c = (a + c) + 1 by omega]; exact drop_nil c
theorem get_nil (k : Nat) : D.nil.get k = .nil := by cases k <;> rfl
theorem get_drop : ∀ (d : D) (a c : Nat), (d.drop a).get c = d.get (a + c)
  | d, 0, c => by rw [drop_zero, Nat.zero_add]
  | .cons _ t, a + 1, c => by
    rw [show a + 1 + c = (a + c) + 1 by omega]
    exact get_drop t a c
  | .nil, a + 1, c => by rw [show a + 1 + c = (a + c) + 1 by omega]; exact get_nil c
  | .i _, a + 1, c => by rw [show a + 1 + c = (a + c) + 1 by omega]; exact get_nil c
  | .b _, a + 1, c => by rw [show a + 1 + c = (a + c) + 1 by omega]; exact get_nil c
theorem hd_drop (d : D) (k : Nat) : (d.drop k).hd = d.get k := by
  have : ∀ d : D, d.hd = d.get 0 := fun d => by cases d <;> rfl
  rw [this, get_drop, Nat.add_zero]
theorem tl_drop (d : D) (k : Nat) : (d.drop k).tl = d.drop (k + 1) := by
  have : ∀ d : D, d.tl = d.drop 1 := fun d => by
    cases d with
    | cons a t => exact (drop_zero t).symm
    | _ => rfl
  rw [this, drop_drop]
theorem len_app : ∀ a e : D, (a.app e).len = a.len + e.len
  | .cons _ t, e => by simp only [app, len, len_app t e]; omega
  | .nil, e => by simp [app, len]
  | .i _, e => by simp [app, len]
  | .b _, e => by simp [app, len]
theorem len_set : ∀ (d : D) (k : Nat) (v : D), (d.set k v).len = d.len
  | .cons _ t, 0, v => rfl
  | .cons _ t, k + 1, v => by simp only [set, len, len_set t k v]
  | .nil, _, _ => rfl
  | .i _, _, _ => rfl
  | .b _, _, _ => rfl
theorem len_rep : ∀ (n : Nat) (v : D), (rep n v).len = n
  | 0, _ => rfl
  | n + 1, v => by simp only [rep, len, len_rep n v]
theorem get_rep : ∀ (n : Nat) (v : D) (k : Nat), k < n → (rep n v).get k = v
  | n + 1, v, 0, _ => rfl
  | n + 1, v, k + 1, h => by simp only [rep, get]; exact get_rep n v k (by omega)
theorem get_app_left : ∀ (a e : D) (k : Nat), k < a.len → (a.app e).get k = a.get k
  | .cons _ _, _, 0, _ => rfl
  | .cons _ t, e, k + 1, h => by simp only [app, get]; exact get_app_left t e k (by simpa [len] using h)
  | .nil, _, _, h | .i _, _, _, h | .b _, _, _, h => by simp [len] at h
theorem get_app_right : ∀ (a e : D) (k : Nat), (a.app e).get (a.len + k) = e.get k
  | .cons _ t, e, k => by rw [show (D.cons _ t).len + k = (t.len + k) + 1 by simp [len]; omega]; simp only [app, get]; exact get_app_right t e k
  | .nil, e, k => by simp [app, len]
  | .i _, e, k => by simp [app, len]
  | .b _, e, k => by simp [app, len]
theorem get_set_self : ∀ (d : D) (k : Nat) (v : D), k < d.len → (d.set k v).get k = v
  | .cons _ _, 0, _, _ => rfl
  | .cons _ t, k + 1, v, h => by simp only [set, get]; exact get_set_self t k v (by simpa [len] using h)
  | .nil, _, _, h | .i _, _, _, h | .b _, _, _, h => by simp [len] at h
theorem get_set_ne : ∀ (d : D) (k j : Nat) (v : D), k ≠ j → (d.set k v).get j = d.get j
  | .cons _ _, 0, 0, _, h => absurd rfl h
  | .cons _ _, 0, _ + 1, _, _ => rfl
  | .cons _ _, _ + 1, 0, _, _ => rfl
  | .cons _ t, k + 1, j + 1, v, h => by simp only [set, get]; exact get_set_ne t k j v (by omega)
  | .nil, _, _, _, _ => rfl
  | .i _, _, _, _, _ => rfl
  | .b _, _, _, _, _ => rfl
theorem len_take : ∀ (d : D) (k : Nat), (d.take k).len = min k d.len
  | .cons _ t, 0 => by simp [take, len]
  | .cons _ t, k + 1 => by simp only [take, len, len_take t k]; omega
  | .nil, k => by cases k <;> simp [take, len]
  | .i _, k => by cases k <;> simp [take, len]
  | .b _, k => by cases k <;> simp [take, len]
theorem get_take : ∀ (d : D) (k j : Nat), j < k → (d.take k).get j = d.get j
  | .cons _ _, _ + 1, 0, _ => rfl
  | .cons _ t, k + 1, j + 1, h => by simp only [take, get]; exact get_take t k j (by omega)
  | .nil, k, j, h => by cases k <;> simp [take]
  | .i _, k, j, h => by cases k <;> cases j <;> rfl
  | .b _, k, j, h => by cases k <;> cases j <;> rfl
theorem len_drop : ∀ (d : D) (k : Nat), (d.drop k).len = d.len - k
  | d, 0 => by rw [drop_zero]; rfl
  | .cons _ t, k + 1 => by simp only [drop, len, len_drop t k]; omega
  | .nil, k + 1 => by simp [drop, len]
  | .i _, k + 1 => by simp [drop, len]
  | .b _, k + 1 => by simp [drop, len]
@[simp] theorem int_i (n : Int) : (D.i n).int = n := rfl
@[simp] theorem bool_b (x : Bool) : (D.b x).bool = x := rfl
end D
open D (int_i bool_b)
section
variable {T : Tab} {η : Env}
theorem getLit_d {a : X} : ∀ {k : Nat} {r : X}, getLit a k = some r → r.d T η = (a.d T η).get k := by
  induction a with
  | lit d => intro k r h; cases k <;> (simp [getLit] at h; subst h; rfl)
  | o2 o a t iha iht =>
    intro k r h
    cases o <;> first | (cases k <;> simp [getLit] at h; done) | skip
    cases k with
    | zero => simp [getLit] at h; subst h; rfl
    | succ k => simp only [getLit] at h; exact iht h
  | _ => intro k r h; cases k <;> simp [getLit] at h
theorem lenLit_d : ∀ {a : X} {n : Nat}, lenLit a = some n → (a.d T η).len = n := by
  intro a
  induction a with
  | lit d => intro n h; simp [lenLit] at h; subst h; rfl
  | o2 o a t iha iht =>
    intro n h
    cases o <;> simp only [lenLit, Option.map_eq_some_iff, reduceCtorEq] at h
    obtain ⟨m, hm, rfl⟩ := h
    simp only [X.d, den2, D.len, iht hm]
  | _ => intro n h; simp [lenLit] at h
theorem lenX_d (y : X) : (lenX y).d T η = .i ((y.d T η).len : Int) := by
  unfold lenX
  split
  · rename_i n h; simp [X.d, lenLit_d h]
  · rfl
theorem mk1'_d (o : O1) (a : X) : (mk1' o a).d T η = den1 o (a.d T η) := by
  unfold mk1'
  split
  · unfold mkNot; split <;> simp [X.d, den1, bool_b]
  · unfold mkHd; split <;> simp [X.d, den1, den2, D.hd]
  · unfold mkTl; split <;> simp [X.d, den1, den2, D.tl]
  · unfold mkLen; split
    · simp only [X.d, den1, den2, lenX_d, int_i, D.len_app]; congr 1
    · simp only [X.d, den1, den3, D.len_set]
    · exact lenX_d _
  · rfl
theorem mk1_d (o : O1) (a : X) : (mk1 o a).d T η = den1 o (a.d T η) := by
  unfold mk1
  split
  · rfl
  · exact mk1'_d o a
theorem natX_int (n : Nat) : ((natX n).d T η).int.toNat = n := rfl
theorem getAt_d (a : X) (y : Nat) : (getAt a y).d T η = (a.d T η).get y := by
  unfold getAt
  split
  · rename_i r h; exact getLit_d h
  · unfold getNo
    split
    · simp only [X.d, den2, natX, int_i, Int.toNat_natCast, D.get_drop]
    · simp only [X.d, den2, natX, int_i, Int.toNat_natCast]
theorem dropAt_d (a : X) (y : Nat) : (dropAt a y).d T η = (a.d T η).drop y := by
  unfold dropAt
  split
  · exact (D.drop_zero _).symm
  · simp only [X.d, den2, natX, int_i, Int.toNat_natCast, D.drop_drop]
  · simp only [X.d, den2, natX, int_i, Int.toNat_natCast]
theorem isB_d {b : X} (h : b.isB = true) : b.d T η = .b (b.d T η).bool := by
  unfold X.isB at h
  split at h
  · rfl
  · split at h <;> first | rfl | cases h
  · cases h
theorem mkAnd_d (a b : X) : (mkAnd a b).d T η = .b ((a.d T η).bool && (b.d T η).bool) := by
  unfold mkAnd
  split
  · rename_i x b
    split
    · rename_i hx
      unfold andT
      split
      · rename_i hb; simp only [X.d, hx, Bool.true_and]; exact isB_d hb
      · simp only [X.d, den2]
    · rename_i hx; simp [X.d, hx]
  · rename_i a x _
    split
    · rename_i hx
      unfold andT
      split
      · rename_i hb; simp only [X.d, hx, Bool.and_true]; exact isB_d hb
      · simp only [X.d, den2]
    · rename_i hx; simp [X.d, hx]
  · simp only [X.d, den2]
theorem mkOr_d (a b : X) : (mkOr a b).d T η = .b ((a.d T η).bool || (b.d T η).bool) := by
  unfold mkOr
  split
  · rename_i x
    split
    · rename_i hx; simp [X.d, hx]
    · rename_i hx
      rw [Bool.not_eq_true] at hx
      unfold andT
      split
      · rename_i hb; simp only [X.d, hx, Bool.false_or]; exact isB_d hb
      · simp only [X.d, den2]
  · rename_i x _
    split
    · rename_i hx; simp [X.d, hx]
    · rename_i hx
      rw [Bool.not_eq_true] at hx
      unfold andT
      split
      · rename_i hb; simp only [X.d, hx, Bool.or_false]; exact isB_d hb
      · simp only [X.d, den2]
  · simp only [X.d, den2]
theorem mk2'_d (o : O2) (a b : X) : (mk2' o a b).d T η = den2 o (a.d T η) (b.d T η) := by
  unfold mk2'
  split
  · unfold mkGet; split
    · exact getAt_d _ _
    · rfl
  · unfold mkDrop; split
    · exact dropAt_d _ _
    · rfl
  · unfold mkApp; split <;> simp [X.d, den2, D.app]
  · unfold mkEq; split
    · rename_i h; subst h; simp [X.d, den2]
    · rfl
  · unfold mkEq; split
    · rename_i h; subst h; simp [X.d, den2]
    · rfl
  · unfold mkEq; split
    · rename_i h; subst h; simp [X.d, den2]
    · rfl
  · exact mkAnd_d a b
  · exact mkOr_d a b
  · rfl
theorem litD_d {a : X} (h : isLit a = true) : a.d T η = litD a := by cases a <;> first | rfl | cases h
theorem mk2_d (o : O2) (a b : X) : (mk2 o a b).d T η = den2 o (a.d T η) (b.d T η) := by
  unfold mk2
  split
  · rename_i h
    rw [Bool.and_eq_true] at h
    rw [litD_d h.1, litD_d h.2]; rfl
  · exact mk2'_d o a b
theorem mk3_d (o : O3) (a b c : X) : (mk3 o a b c).d T η = den3 o (a.d T η) (b.d T η) (c.d T η) := by
  unfold mk3
  split
  · split
    · split <;> rename_i h <;> simp [X.d, den3, h]
    · split
      · rename_i h; subst h; simp [den3]
      · rfl
  · split <;> rfl
theorem runOf_d (x : X) : ∀ (t : X) (k m : Nat) (r : X), runOf x k t = (m, r) → ∃ n, m = k + n ∧ t.d T η = (D.seg n (x.d T η) k).app (r.d T η) := by
  intro t
  induction t with
  | o2 o h t _ iht =>
    intro k m r hr
    unfold runOf at hr
    split at hr
    · rename_i heq
      obtain ⟨rfl, rfl, rfl⟩ := by simpa using heq
      split at hr
      · rename_i hc
        simp only [Bool.and_eq_true, decide_eq_true_eq, X.bq_iff] at hc
        obtain ⟨rfl, rfl⟩ := hc
        obtain ⟨n, h1, h2⟩ := iht _ _ _ hr
        refine ⟨n + 1, by omega, ?_⟩
        simp only [X.d, den2, D.seg, D.app, int_i, Int.toNat_natCast, h2]
      · obtain ⟨rfl, rfl⟩ := by simpa using hr
        exact ⟨0, rfl, rfl⟩
    · obtain ⟨rfl, rfl⟩ := by simpa using hr
      exact ⟨0, rfl, rfl⟩
  | _ =>
    intro k m r hr
    unfold runOf at hr
    obtain ⟨rfl, rfl⟩ := by simpa using hr
    exact ⟨0, rfl, rfl⟩
theorem D.seg_app_nil : ∀ (n : Nat) (d : D) (k : Nat), (D.seg n d k).app .nil = D.seg n d k
  | 0, _, _ => rfl
  | n + 1, d, k => by simp only [D.seg, D.app, D.seg_app_nil n]
theorem comp_d : ∀ (n : Nat) (a : X), (comp n a).d T η = a.d T η := by
  intro n
  induction n with
  | zero => intro a; rfl
  | succ n ih =>
    intro a
    unfold comp
    split
    · contradiction
    · rename_i m x t heq
      obtain rfl : m = n := by omega
      simp only
      split
      · simp only [X.d, ih]
      · cases hq : runOf x 1 t with
        | mk m r =>
          obtain ⟨j, h1, h2⟩ := runOf_d (T := T) (η := η) x t 1 m r hq
          subst h1
          have key : (X.o2 .cons (.o2 .get x (.lit (.i 0))) t).d T η = (D.seg (1 + j) (x.d T η) 0).app (r.d T η) := by
            rw [Nat.add_comm 1 j]
            simp only [X.d, den2, D.seg, D.app, h2]; rfl
          rw [key]
          simp only
          split
          · simp only [X.d, den1, D.seg_app_nil]
          · simp only [X.d, den1, den2, ih]
    · rename_i m _ _ _ heq
      obtain rfl : m = n := by omega
      simp only [X.d, ih]
    · rfl
theorem mkF_d {F : Fs} (hF : F.ok T) (f : Nat) (a : X) : (mkF F f a).d T η = T f (a.d T η) := by
  unfold mkF
  split
  · split
    · rename_i q h
      have h1 := List.find?_some h
      simp at h1; subst h1
      simp only [X.d]; rw [hF q (List.mem_of_find?_eq_some h)]
    · rfl
  · simp only [X.d, comp_d]
/-- the values of a substitution's variables -/
def Env.sub (T : Tab) (η : Env) (s : Sub) : Env where
  d := fun j => if j < s.n then η.d j else (look s.x j).d T η
  v := fun j => η.v (lookN s.v j)
theorem sub_d {F : Fs} (hF : F.ok T) (s : Sub) : ∀ x : X, (x.sub F s).d T η = x.d T (η.sub T s) := by
  intro x
  induction x with
  | lit d => rfl
  | var j => simp only [X.sub, X.d, Env.sub]; split <;> rfl
  | o1 o a ih => simp only [X.sub, mk1_d, X.d, ih]
  | o2 o a b iha ihb => simp only [X.sub, mk2_d, X.d, iha, ihb]
  | o3 o a b c iha ihb ihc => simp only [X.sub, mk3_d, X.d, iha, ihb, ihc]
  | fn f a ih => simp only [X.sub, mkF_d hF, X.d, ih]
/-- what is known is so -/
def PC.ok (T : Tab) (η : Env) (pc : PC) : Prop := ∀ q ∈ pc, (q.1.d T η).bool = q.2
theorem find_ok {pc : PC} (hpc : pc.ok T η) {x : X} {b : Bool} (h : (pc.find? (fun q => decide (q.1 = x))).map (·.2) = some b) : (x.d T η).bool = b := by
  simp only [Option.map_eq_some_iff] at h
  obtain ⟨q, hf, rfl⟩ := h
  have h1 := List.find?_some hf
  simp only [decide_eq_true_eq] at h1
  rw [← h1]
  exact hpc q (List.mem_of_find?_eq_some hf)
theorem dec_ok {pc : PC} (hpc : pc.ok T η) : ∀ {x : X} {b : Bool}, dec pc x = some b → (x.d T η).bool = b := by
  intro x
  induction x with
  | lit d => intro b h; simp [dec] at h; subst h; rfl
  | var j => intro b h; exact find_ok hpc (by simpa only [dec] using h)
  | o1 o a ih =>
    intro b h
    cases o with
    | not =>
      simp only [dec, Option.map_eq_some_iff] at h
      obtain ⟨c, hc, rfl⟩ := h
      simp only [X.d, den1, bool_b, ih hc]
    | _ => exact find_ok hpc (by simpa only [dec] using h)
  | o2 o x y ihx ihy =>
    intro b h
    have fin : (pc.find? (fun q => decide (q.1 = .o2 o x y))).map (·.2) = some b → ((X.o2 o x y).d T η).bool = b := fun h => find_ok hpc h
    cases o with
    | and =>
      simp only [dec] at h
      split at h
      · rename_i h1; simp at h; subst h; simp only [X.d, den2, bool_b, ihx h1, Bool.false_and]
      · rename_i h1 _; simp at h; subst h; simp only [X.d, den2, bool_b, ihy h1, Bool.and_false]
      · rename_i h1 h2; simp at h; subst h; simp only [X.d, den2, bool_b, ihx h1, ihy h2, Bool.and_self]
      · exact fin h
    | or =>
      simp only [dec] at h
      split at h
      · rename_i h1; simp at h; subst h; simp only [X.d, den2, bool_b, ihx h1, Bool.true_or]
      · rename_i h1 _; simp at h; subst h; simp only [X.d, den2, bool_b, ihy h1, Bool.or_true]
      · rename_i h1 h2; simp at h; subst h; simp only [X.d, den2, bool_b, ihx h1, ihy h2, Bool.or_self]
      · exact fin h
    | _ => exact fin (by simpa only [dec] using h)
  | o3 o a b c => intro b h; exact find_ok hpc (by simpa only [dec] using h)
  | fn f a => intro b h; exact find_ok hpc (by simpa only [dec] using h)
theorem facts_ok : ∀ {x : X} {b : Bool}, (x.d T η).bool = b → (facts x b).ok T η := by
  intro x
  have base : ∀ {x : X} {b : Bool}, (x.d T η).bool = b → PC.ok T η [(x, b)] := fun h q hq => by
    rw [List.mem_singleton] at hq; subst hq; exact h
  induction x with
  | o1 o a ih =>
    intro b h
    cases o with
    | not => simp only [facts]; refine ih ?_; simp only [X.d, den1, bool_b] at h; rw [← h]; simp
    | _ => exact base h
  | o2 o x y ihx ihy =>
    intro b h
    cases o <;> cases b <;> try exact base h
    · simp only [X.d, den2, bool_b, Bool.and_eq_true] at h
      simp only [facts]
      intro q hq
      rcases List.mem_append.1 hq with hq | hq
      · exact ihx h.1 q hq
      · exact ihy h.2 q hq
    · simp only [X.d, den2, bool_b, Bool.or_eq_false_iff] at h
      simp only [facts]
      intro q hq
      rcases List.mem_append.1 hq with hq | hq
      · exact ihx h.1 q hq
      · exact ihy h.2 q hq
  | _ => intro b h; exact base h
theorem PC.ok.add {pc : PC} (h : pc.ok T η) {x : X} {b : Bool} (hx : (x.d T η).bool = b) : PC.ok T η (facts x b ++ pc) := by
  intro q hq
  rcases List.mem_append.1 hq with hq | hq
  · exact facts_ok hx q hq
  · exact h q hq
theorem isAt_ok {pc : PC} (hpc : pc.ok T η) {x : X} {k : Nat} {b : Bool} (h : isAt pc x k = some b) : ((x.d T η).int == (k : Int)) = b := by
  have := find_ok hpc h
  simpa only [X.d, den2, bool_b, int_i] using this
theorem le_of {a b : X} (h : ((mk2 .le a b).d T η).bool = true) : (a.d T η).int ≤ (b.d T η).int := by
  rw [mk2_d] at h
  exact of_decide_eq_true h
theorem lt_of {a b : X} (h : ((mk2 .lt a b).d T η).bool = true) : (a.d T η).int < (b.d T η).int := by
  rw [mk2_d] at h
  exact of_decide_eq_true h
theorem idxLit_i {pc : PC} (hpc : pc.ok T η) {x : X} {len : Nat} {i : Int} {q : List X} (h : idxLit pc x len = some (i, q)) (hq : ∀ y ∈ q, (y.d T η).bool = true) : (x.d T η).int = i := by
  unfold idxLit at h
  split at h
  · simp at h; obtain ⟨rfl, rfl⟩ := h; rfl
  · split at h
    · rename_i k hk
      simp at h; obtain ⟨rfl, rfl⟩ := h
      have h1 := List.find?_some hk
      have := isAt_ok hpc (by simpa using h1 : isAt pc x k = some true)
      simpa using this
    · split at h
      · rename_i hc
        simp at h; obtain ⟨rfl, rfl⟩ := h
        have q1 := le_of (hq (mk2 .le (.lit (.i 0)) x) (by simp))
        have q2 := lt_of (hq (mk2 .lt x (.lit (.i (len : Int)))) (by simp))
        simp only [X.d, int_i] at q1 q2
        have hne : ∀ k, k < len - 1 → (x.d T η).int ≠ (k : Int) := by
          intro k hk he
          have := List.all_eq_true.1 hc.2 k (by simpa using hk)
          have := isAt_ok hpc (by simpa using this : isAt pc x k = some false)
          rw [he] at this
          simp at this
        rcases Nat.lt_or_ge (x.d T η).int.toNat (len - 1) with hlt | hge
        · exact absurd (by omega) (hne _ hlt)
        · omega
      · cases h
theorem needs_mem {l : List X} (h : ∀ x ∈ needs l, (x.d T η).bool = true) : ∀ x ∈ l, (x.d T η).bool = true := by
  intro x hx
  by_cases hl : x = .lit (.b true)
  · subst hl; rfl
  · exact h x (List.mem_filter.2 ⟨hx, by simpa using hl⟩)
theorem simp2_d (o : O2) (a b : X) : (simp2 o a b).d T η = den2 o (a.d T η) (b.d T η) := by
  unfold simp2
  split
  · split
    · split
      · rename_i h; simp [X.d, den2, h]
      · rename_i h
        rw [Bool.not_eq_true] at h
        rw [mk2_d]; simp [X.d, den2, h, bool_b]
    · exact mk2_d _ _ _
  · split
    · split
      · rename_i h; rw [mk2_d]; simp [X.d, den2, h, bool_b]
      · rename_i h; simp [X.d, den2, h]
    · exact mk2_d _ _ _
  · exact mk2_d _ _ _
theorem dec2_ok {pc : PC} (hpc : pc.ok T η) {x : X} {b : Bool} (h : dec2 pc x = some b) : (x.d T η).bool = b := by
  unfold dec2 at h
  split at h
  · rename_i r hr
    simp only [Option.some.injEq] at h
    subst h
    exact dec_ok hpc hr
  · split at h
    · rename_i a c _
      cases hd : dec pc (.o2 .or (mk1 .not a) (mk1 .not c)) with
      | none => rw [hd] at h; cases h
      | some r =>
        rw [hd] at h
        simp only [Option.map_some, Option.some.injEq] at h
        have := dec_ok hpc hd
        simp only [X.d, mk1_d, den1, den2, bool_b] at this ⊢
        rw [← h, ← this]
        cases (a.d T η).bool <;> cases (c.d T η).bool <;> rfl
    · rename_i a c _
      cases hd : dec pc (.o2 .and (mk1 .not a) (mk1 .not c)) with
      | none => rw [hd] at h; cases h
      | some r =>
        rw [hd] at h
        simp only [Option.map_some, Option.some.injEq] at h
        have := dec_ok hpc hd
        simp only [X.d, mk1_d, den1, den2, bool_b] at this ⊢
        rw [← h, ← this]
        cases (a.d T η).bool <;> cases (c.d T η).bool <;> rfl
    · cases h
theorem under_d {F : Fs} (hF : F.ok T) {pc : PC} (hpc : pc.ok T η) : ∀ x : X, (x.under F pc).d T η = x.d T η := by
  intro x
  induction x with
  | lit d => rfl
  | var j => rfl
  | o1 o a ih =>
    cases o with
    | not =>
      simp only [X.under]
      split
      · rename_i r hr; simp only [X.d, den1, dec2_ok hpc hr]
      · simp only [mk1_d, X.d, ih]
    | _ => simp only [X.under, mk1_d, X.d, ih]
  | o2 o a b iha ihb =>
    have op : ∀ c : X, (c.under F pc).d T η = c.d T η → ((match dec2 pc c with | some r => X.lit (.b r) | none => c.under F pc).d T η).bool = (c.d T η).bool := by
      intro c hc
      split
      · rename_i r hr; exact (dec2_ok hpc hr).symm
      · rw [hc]
    have keyB : ∀ o, (∀ x y x' y', x.bool = x'.bool → y.bool = y'.bool → den2 o x y = den2 o x' y') → (∀ x y, den2 o x y = .b (den2 o x y).bool) → (match dec2 pc (.o2 o a b) with | some r => X.lit (.b r) | none => simp2 o (match dec2 pc a with | some r => X.lit (.b r) | none => a.under F pc) (match dec2 pc b with | some r => X.lit (.b r) | none => b.under F pc)).d T η = (X.o2 o a b).d T η := by
      intro o hb ho
      split
      · rename_i r hr
        have := dec2_ok hpc hr
        simp only [X.d] at this ⊢
        rw [ho, this]
      · rw [simp2_d]
        exact hb _ _ _ _ (op a iha) (op b ihb)
    have key : ∀ o, (∀ x y, den2 o x y = .b (den2 o x y).bool) → (match dec2 pc (.o2 o a b) with | some r => X.lit (.b r) | none => simp2 o (a.under F pc) (b.under F pc)).d T η = (X.o2 o a b).d T η := by
      intro o ho
      split
      · rename_i r hr
        have := dec2_ok hpc hr
        simp only [X.d] at this ⊢
        rw [ho, this]
      · simp only [simp2_d, X.d, iha, ihb]
    cases o <;> simp only [X.under] <;> first | exact key _ (fun _ _ => rfl) | exact keyB _ (fun _ _ _ _ h h' => by simp only [den2, h, h']) (fun _ _ => rfl) | simp only [mk2_d, X.d, iha, ihb]
  | o3 o c a b ihc iha ihb =>
    cases o with
    | ite =>
      simp only [X.under]
      split
      · rename_i h; simp only [X.d, den3, dec2_ok hpc h, if_true, iha]
      · rename_i h; simp only [X.d, den3, dec2_ok hpc h, Bool.false_eq_true, if_false, ihb]
      · simp only [mk3_d, X.d, iha, ihb, ihc]
    | set => simp only [X.under, mk3_d, X.d, iha, ihb, ihc]
  | fn f a ih => simp only [X.under, mkF_d hF, X.d, ih]
theorem bAnd_d (a b : X) : ((bAnd a b).d T η).bool = ((a.d T η).bool && (b.d T η).bool) := by
  unfold bAnd
  split
  · split
    · rename_i h; simp [X.d, h]
    · rename_i h; rw [Bool.not_eq_true] at h; simp [X.d, h, bool_b]
  · split
    · rename_i h; simp [X.d, h]
    · rename_i h; rw [Bool.not_eq_true] at h; simp [X.d, h, bool_b]
  · simp [X.d, den2, bool_b]
theorem bOr_d (a b : X) : ((bOr a b).d T η).bool = ((a.d T η).bool || (b.d T η).bool) := by
  unfold bOr
  split
  · split
    · rename_i h; simp [X.d, h, bool_b]
    · rename_i h; rw [Bool.not_eq_true] at h; simp [X.d, h]
  · split
    · rename_i h; simp [X.d, h, bool_b]
    · rename_i h; rw [Bool.not_eq_true] at h; simp [X.d, h]
  · simp [X.d, den2, bool_b]
theorem bN_d : ∀ x : X, ((bN x).d T η).bool = (x.d T η).bool := by
  intro x
  induction x with
  | o1 o a ih =>
    cases o with
    | not => simp only [bN, mk1_d, X.d, den1, bool_b, ih]
    | _ => rfl
  | o2 o a b iha ihb =>
    cases o with
    | and => simp only [bN, bAnd_d, iha, ihb, X.d, den2, bool_b]
    | or => simp only [bN, bOr_d, iha, ihb, X.d, den2, bool_b]
    | _ => rfl
  | _ => rfl
theorem boolUnder_d {F : Fs} (hF : F.ok T) {pc : PC} (hpc : pc.ok T η) (x : X) : ((boolUnder F pc x).d T η).bool = (x.d T η).bool := by
  unfold boolUnder
  split
  · rename_i b hb; exact (dec2_ok hpc hb).symm
  · rw [bN_d, under_d hF hpc]
theorem phiB_d (c x y : X) : ((phiB c x y).d T η).bool = if (c.d T η).bool then (x.d T η).bool else (y.d T η).bool := by
  unfold phiB
  split
  · rename_i h; subst h; simp
  · split
    · simp only [mk2_d, den2, X.d, bool_b]; cases (c.d T η).bool <;> simp
    · simp only [mk2_d, mk1_d, den2, den1, X.d, bool_b]; cases (c.d T η).bool <;> simp
    · simp only [mk2_d, den2, X.d, bool_b]; cases (c.d T η).bool <;> simp
    · simp only [mk2_d, mk1_d, den2, den1, X.d, bool_b]; cases (c.d T η).bool <;> simp
    · simp only [X.d, den3]; split <;> rfl
end
end
end Go.Sz
