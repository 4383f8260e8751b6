/- The evaluator: regions. -/
import Derived.Test.YtjeenfnfkndgaaaZP
namespace Go.Sz
open Go Go.RowKit
noncomputable section
theorem writer_some {ops : List Oper} {t : Tmp} {j : Nat} (h : writer ops t = some j) : ∃ o, ops[j]? = some o ∧ o.dst = some t := by
  unfold writer at h
  simp only at h
  split at h
  · rename_i hlt
    simp at h; subst h
    have := List.findIdx_getElem (w := hlt)
    exact ⟨_, List.getElem?_eq_getElem hlt, by simpa using this⟩
  · cases h
theorem oneWriter_eq : ∀ {ops : List Oper}, oneWriter ops = true → ∀ {i j : Nat} {o q : Oper} {t : Tmp}, ops[i]? = some o → ops[j]? = some q → o.dst = some t → q.dst = some t → i = j
  | [], _, i, _, _, _, _, h, _, _, _ => by simp at h
  | x :: ops, hw, i, j, o, q, t, h, h', e, e' => by
    simp only [oneWriter, Bool.and_eq_true] at hw
    have no : ∀ y ∈ ops, x.dst = some t → y.dst = some t → False := fun y hy a b => by
      have := hw.1
      rw [a] at this
      simp only [List.all_eq_true] at this
      have := this y hy
      rw [b] at this
      simp at this
    cases i with
    | zero =>
      simp at h; subst h
      cases j with
      | zero => rfl
      | succ j => exact absurd (no q (List.mem_of_getElem? (by simpa using h')) e e') id
    | succ i =>
      cases j with
      | zero => simp at h'; subst h'; exact absurd (no o (List.mem_of_getElem? (by simpa using h)) e' e) id
      | succ j => exact congrArg (· + 1) (oneWriter_eq hw.2 (i := i) (j := j) (by simpa using h) (by simpa using h') e e')
theorem writer_of {ops : List Oper} (hw : oneWriter ops = true) {i : Nat} {o : Oper} {t : Tmp} (h : ops[i]? = some o) (e : o.dst = some t) : writer ops t = some i := by
  cases hf : writer ops t with
  | none =>
    unfold writer at hf
    simp only at hf
    split at hf
    · cases hf
    · rename_i hlt
      exact absurd (List.findIdx_lt_length_of_exists ⟨o, List.mem_of_getElem? h, by simp [e]⟩) hlt
  | some j =>
    obtain ⟨q, h1, h2⟩ := writer_some hf
    exact congrArg some (oneWriter_eq hw h h1 e h2).symm
theorem writer_none {ops : List Oper} {t : Tmp} (h : writer ops t = none) {i : Nat} {o : Oper} (ho : ops[i]? = some o) : o.dst ≠ some t := fun e => by
  unfold writer at h
  simp only at h
  split at h
  · cases h
  · rename_i hlt
    exact hlt (List.findIdx_lt_length_of_exists ⟨o, List.mem_of_getElem? ho, by simp [e]⟩)

/-- what the checks say -/
structure Ck (P : Program) (F : Fs) (K : List Con) (ops : List Oper) (dep : List Nat) (σ : St) (effs : List Eff) (need : List X) : Prop where
  onew : oneWriter ops = true
  len : effs.length = ops.length
  again : ∀ i, i < ops.length → ∃ e q, effs[i]? = some e ∧ runOp P F K ops dep σ.bk.length σ effs i = .ok e q ∧ ∀ x ∈ q, x ∈ need
  seen : seenOk dep σ.bk.length effs 0 effs = true
  dst : ∀ o ∈ ops, ∀ t, o.dst = some t → t < σ.sl.length
theorem again_all {P : Program} {F : Fs} {K : List Con} {ops : List Oper} {dep : List Nat} {n0 : Nat} {σ : St} {effs : List Eff} {need : List X} : ∀ {l : List Eff} {k : Nat}, again P F K ops dep n0 σ effs need k l = true → ∀ i e, l[i]? = some e → ∃ q, runOp P F K ops dep n0 σ effs (k + i) = .ok e q ∧ ∀ x ∈ q, x ∈ need
  | [], k, h, i, e, hi => by simp at hi
  | e0 :: l, k, h, i, e, hi => by
    simp only [again, Bool.and_eq_true] at h
    cases i with
    | zero =>
      simp at hi; subst hi
      have h1 := h.1
      split at h1
      · rename_i e' q hr
        simp only [Bool.and_eq_true, decide_eq_true_eq, List.all_eq_true, List.contains_iff_mem] at h1
        obtain ⟨rfl, h5⟩ := h1
        exact ⟨q, hr, fun x hx => h5 x hx⟩
      · cases h1
    | succ i =>
      obtain ⟨q, h1, h2⟩ := again_all h.2 i e (by simpa using hi)
      exact ⟨q, by rw [show k + (i + 1) = k + 1 + i by omega]; exact h1, h2⟩
theorem Ck.of {P : Program} {F : Fs} {K : List Con} {draw : Bool} {σ : St} {ops : List Oper} {dep : List Nat} {effs : List Eff} {need : List X} (h1 : okOps draw ops dep σ.sl.length = true) (h2 : checks P F K ops dep σ.bk.length σ effs need = true) :
    Ck P F K ops dep σ effs need ∧ (draw = true → depOk ops dep = true ∧ orderOk ops = true) := by
  unfold okOps at h1
  unfold checks at h2
  simp only [Bool.and_eq_true, Bool.or_eq_true, beq_iff_eq] at h1 h2
  obtain ⟨⟨g1, g2⟩, g3⟩ := h1
  obtain ⟨⟨⟨-, g4⟩, g5⟩, g6⟩ := h2
  refine ⟨⟨g1, g4, fun i hi => ?_, g6, fun o ho t ht => ?_⟩, fun hd => ?_⟩
  · have hlt : i < effs.length := by omega
    obtain ⟨q, r1, r2⟩ := again_all g5 i effs[i] (by simp [hlt])
    rw [Nat.zero_add] at r1
    exact ⟨effs[i], q, by simp [hlt], r1, r2⟩
  · have := List.all_eq_true.1 g3 o ho
    rw [ht] at this
    simpa using this
  · rcases g2 with g2 | g2
    · simp [hd] at g2
    · exact g2
def upB (L : Nat → Bool) (i : Nat) : Nat → Bool := fun j => decide (j = i) || L j
section
variable {P : Program} {T : Tab} {η : Env} {ρ : Plc} {S : List Nat} {w0 : World} {Z0 Z : Nat → Prop} {n n0 : Nat} {a : Act} {w : World} {F : Fs} {K : List Con} {ops : List Oper} {dep : List Nat} {σ : St} {effs : List Eff} {need : List X} {L : Nat → Bool}
theorem upB_ne {i j : Nat} (h : j ≠ i) : upB L i j = L j := by unfold upB; simp [h]
theorem upB_eq (i : Nat) : upB L i i = true := by unfold upB; simp
theorem opV_V {sl : Tmp → Option SV} {p : Nat → Bool} (hsl : ∀ t v, sl t = some v → v.V T η ρ w Z (a.tmps.getD t undef)) (hp : ∀ t v, sl t = some v → v.ids p = true) : ∀ x v, opV sl x = some v → v.V T η ρ w Z (a.eval x) ∧ v.ids p = true
  | .tmp t, v, h => ⟨hsl t v h, hp t v h⟩
  | .const c, v, h => ofConst_V h
  | .func f, v, h => by simp [opV] at h; subst h; exact ⟨rfl, rfl⟩
  | .global g, v, h => by cases h
theorem guard_ok {ops : Array Oper} {o : Oper} {pc : PC} {sl : Tmp → Option SV} {b : Bool} (hpc : pc.ok T η) (hsl : ∀ t v, sl t = some v → v.V T η ρ w Z (a.tmps.getD t undef))
    (hg : guardM ops.toList pc sl o = some (.inl b)) : Region.wanted o (yielded ops a.tmps) = b := by
  unfold guardM at hg
  unfold Region.wanted
  split at hg
  · rename_i h0
    rw [h0]
    simpa using hg
  · rename_i j want h0
    rw [h0]
    simp only at hg ⊢
    split at hg
    · rename_i d hd
      rw [Array.getElem?_toList] at hd
      unfold yielded
      rw [hd]
      simp only [Option.bind_some]
      split at hg
      · rename_i x hx
        split at hg
        · rename_i b' hb
          have h1 := hsl d _ hx
          have h2 := dec_ok hpc hb
          simp only [SV.V, S1.V, Sc.V, h2] at h1
          rw [Array.getD_eq_getD_getElem?] at h1
          cases ht : a.tmps[d]? with
          | none => rw [ht] at h1; simp [undef] at h1
          | some u =>
            rw [ht] at h1
            simp at h1; subst h1
            simp at hg; subst hg
            rfl
        · cases hg
      · rename_i hx
        have h1 := hsl d _ hx
        obtain ⟨vs, h1, h1'⟩ := h1
        simp only [VT] at h1'; subst h1'
        rw [Array.getD_eq_getD_getElem?] at h1
        simp at hg; subst hg
        cases ht : a.tmps[d]? with
        | none => rfl
        | some u =>
          rw [ht] at h1
          simp at h1; subst h1
          rfl
      · cases hg
    · cases hg
theorem slot_le {i : Nat} (hcl : ∀ i j, L i = true → waits dep i j = true → L j = true) (hLi : L i = false) (hdep : ∀ j, waits dep i j = true → L j = true) {t : Tmp} {v : SV} (h : slotM ops dep σ effs i t = some v) : slotAt ops σ effs L t = some v := by
  unfold slotM at h
  unfold slotAt
  split at h
  · exact h
  · rename_i j hwr
    split at h
    · rename_i hw; simp only [hdep j hw, if_true]; exact h
    · split at h
      · rename_i hw
        have : L j = false := by
          rcases hw with rfl | hw
          · exact hLi
          · cases hj : L j with
            | false => rfl
            | true => rw [hcl j i hj hw] at hLi; cases hLi
        simp only [this]
        exact h
      · cases h
theorem findWr_congr {A B : Nat → Bool} {id : Nat} : ∀ {l : List Eff} {k : Nat}, (∀ i e, l[i]? = some e → inWr id e = true → A (k + i) = B (k + i)) → findWr A id l k = findWr B id l k
  | [], _, _ => rfl
  | e :: l, k, h => by
    have ih := findWr_congr (A := A) (B := B) (id := id) (l := l) (k := k + 1) fun i e' he hw => by
      have := h (i + 1) e' (by simpa using he) hw
      rwa [show k + (i + 1) = k + 1 + i by omega] at this
    simp only [findWr, ih]
    cases hw : inWr id e with
    | true =>
      have := h 0 e rfl hw
      rw [Nat.add_zero] at this
      rw [this]
    | false =>
      have : e.wr.find? (·.1 == id) = none := by
        unfold inWr at hw
        rw [List.find?_eq_none]
        intro q hq
        have := List.any_eq_false.1 hw q hq
        exact this
      simp [this]
theorem allWr_get {ok : Nat → Bool} {id : Nat} : ∀ {l : List Eff} {k : Nat}, allWr ok id l k = true → ∀ {i : Nat} {e : Eff}, l[i]? = some e → inWr id e = true → ok (k + i) = true
  | [], _, _, i, e, h, _ => by simp at h
  | e0 :: l, k, h, i, e, he, hw => by
    simp only [allWr, Bool.and_eq_true, Bool.or_eq_true, Bool.not_eq_true'] at h
    cases i with
    | zero =>
      simp at he; subst he
      rcases h.1 with h1 | h1
      · rw [hw] at h1; cases h1
      · exact h1
    | succ i =>
      have := allWr_get h.2 (i := i) (e := e) (by simpa using he) hw
      rwa [show k + 1 + i = k + (i + 1) by omega] at this
theorem findWr_false {id : Nat} : ∀ {l : List Eff} {k : Nat}, findWr (fun _ => false) id l k = none
  | [], _ => rfl
  | e :: l, k => by simp only [findWr, findWr_false, Bool.false_eq_true, if_false]
theorem findWr_at {A : Nat → Bool} {id : Nat} : ∀ {l : List Eff} {k i : Nat} {e : Eff}, l[i]? = some e → A (k + i) = true → inWr id e = true → (∀ j e', i < j → l[j]? = some e' → inWr id e' = true → A (k + j) = false) → findWr A id l k = (e.wr.find? (·.1 == id)).map (·.2)
  | [], _, i, e, h, _, _, _ => by simp at h
  | e0 :: l, k, 0, e, h, hA, hw, hn => by
    simp at h; subst h
    have : findWr A id l (k + 1) = none := by
      have : findWr A id l (k + 1) = findWr (fun _ => false) id l (k + 1) := findWr_congr fun i e' he hw' => by
        have := hn (i + 1) e' (by omega) (by simpa using he) hw'
        rwa [show k + (i + 1) = k + 1 + i by omega] at this
      rw [this]; exact findWr_false
    simp only [findWr, this]
    rw [Nat.add_zero] at hA
    rw [hA]; rfl
  | e0 :: l, k, i + 1, e, h, hA, hw, hn => by
    have ih := findWr_at (A := A) (id := id) (l := l) (k := k + 1) (i := i) (e := e) (by simpa using h) (by rwa [show k + 1 + i = k + (i + 1) by omega]) hw fun j e' hj he hw' => by
      have := hn (j + 1) e' (by omega) (by simpa using he) hw'
      rwa [show k + (j + 1) = k + 1 + j by omega] at this
    simp only [findWr, ih]
    have : (e.wr.find? (·.1 == id)).isSome = true := by
      unfold inWr at hw
      rw [List.find?_isSome]
      rw [List.any_eq_true] at hw
      exact hw
    obtain ⟨q, hq⟩ := Option.isSome_iff_exists.1 this
    rw [hq]; rfl
theorem blk_le {i id : Nat} {b : Blk} (hcl : ∀ i j, L i = true → waits dep i j = true → L j = true) (hLi : L i = false) (hdep : ∀ j, waits dep i j = true → L j = true) (h : blkM dep n0 σ effs i id = some b) : blkAt n0 σ effs L id = some b := by
  unfold blkM at h
  split at h
  · rename_i hall
    have hc : findWr (waits dep i) id effs 0 = findWr L id effs 0 := findWr_congr fun j e he hw => by
      have := allWr_get hall he hw
      simp only [Nat.zero_add, Bool.or_eq_true, decide_eq_true_eq] at this ⊢
      rcases this with (h1 | h1) | h1
      · subst h1
        rw [hLi]
        cases hww : waits dep j j with
        | false => rfl
        | true => have := hdep j hww; rw [hLi] at this; cases this
      · rw [h1, hdep j h1]
      · have h2 : L j = false := by
          cases hj : L j with
          | false => rfl
          | true => rw [hcl j i hj h1] at hLi; cases hLi
        rw [h2]
        cases hww : waits dep i j with
        | false => rfl
        | true => have := hdep j hww; rw [h2] at this; cases this
    unfold blkAt at h ⊢
    rw [hc] at h
    cases hfw : findWr L id effs 0 with
    | some r => rw [hfw] at h; exact h
    | none =>
      rw [hfw] at h
      simp only at h ⊢
      by_cases hid : id < n0
      · rw [if_pos hid] at h ⊢; exact h
      · rw [if_neg hid] at h ⊢
        cases hcr : creator id effs 0 n0 with
        | none => rw [hcr] at h; cases h
        | some jb =>
          obtain ⟨j, b'⟩ := jb
          rw [hcr] at h
          simp only at h ⊢
          split at h
          · rename_i hw; rw [if_pos (hdep j hw)]; exact h
          · cases h
  · cases h
theorem creator_some : ∀ {l : List Eff} {k base id j : Nat} {b : Blk}, creator id l k base = some (j, b) → ∃ i e, j = k + i ∧ l[i]? = some e ∧ baseOf base l i ≤ id ∧ e.nw[id - baseOf base l i]? = some b
  | [], k, base, id, j, b, h => by simp [creator] at h
  | e :: l, k, base, id, j, b, h => by
    simp only [creator] at h
    split at h
    · cases h
    · rename_i h1
      split at h
      · simp only [Option.map_eq_some_iff, Prod.mk.injEq] at h
        obtain ⟨b', hb, rfl, rfl⟩ := h
        exact ⟨0, e, rfl, rfl, by simp [baseOf]; omega, by simpa [baseOf] using hb⟩
      · obtain ⟨i, e', rfl, h2, h3, h4⟩ := creator_some h
        have hb : baseOf base (e :: l) (i + 1) = baseOf (base + e.nw.length) l i := by simp [baseOf]; omega
        exact ⟨i + 1, e', by omega, by simpa using h2, by rw [hb]; exact h3, by rw [hb]; exact h4⟩
theorem creator_of : ∀ {l : List Eff} {k base i m : Nat} {e : Eff} {b : Blk}, l[i]? = some e → e.nw[m]? = some b → creator (baseOf base l i + m) l k base = some (k + i, b)
  | [], k, base, i, m, e, b, h, _ => by simp at h
  | e0 :: l, k, base, 0, m, e, b, h, hb => by
    simp at h; subst h
    have hlt := (List.getElem?_eq_some_iff.1 hb).1
    simp only [creator, baseOf, List.take_zero, List.map_nil, List.sum_nil, Nat.add_zero]
    rw [if_neg (by omega), if_pos (by omega), show base + m - base = m by omega, hb]
    rfl
  | e0 :: l, k, base, i + 1, m, e, b, h, hb => by
    have hbs : baseOf base (e0 :: l) (i + 1) = baseOf (base + e0.nw.length) l i := by simp [baseOf]; omega
    have hge : base + e0.nw.length ≤ baseOf (base + e0.nw.length) l i := by simp [baseOf]
    rw [hbs]
    simp only [creator]
    rw [if_neg (by omega), if_neg (by omega), creator_of (by simpa using h) hb]
    simp; omega
theorem baseOf_ge (base : Nat) (l : List Eff) (i : Nat) : base ≤ baseOf base l i := by simp [baseOf]
/-- the blocks that are there -/
def pAt (n0 : Nat) (effs : List Eff) (L : Nat → Bool) (id : Nat) : Bool := decide (id < n0) || (match creator id effs 0 n0 with | some (j, _) => L j | none => false)
def fsAt (ops : List Oper) (n0 : Nat) (σ : St) (effs : List Eff) (L : Nat → Bool) : FS := ⟨slotAt ops σ effs L, blkAt n0 σ effs L, pAt n0 effs L⟩
theorem slot_up (ck : Ck P F K ops dep σ effs need) {i : Nat} {o : Oper} {e : Eff} (ho : ops[i]? = some o) (he : effs[i]? = some e) (t : Nat) (u : SV) (h : slotAt ops σ effs (upB L i) t = some u) :
    (o.dst = some t ∧ u = e.v) ∨ (o.dst ≠ some t ∧ slotAt ops σ effs L t = some u) := by
  unfold slotAt at h
  split at h
  · rename_i hw
    refine .inr ⟨writer_none hw ho, ?_⟩
    unfold slotAt
    rw [hw]; exact h
  · rename_i j hw
    by_cases hj : j = i
    · subst hj
      obtain ⟨o', h1, h2⟩ := writer_some hw
      rw [ho] at h1
      simp at h1; subst h1
      rw [upB_eq] at h
      simp only [if_true, effV, he, Option.map_some, Option.some.injEq] at h
      exact .inl ⟨h2, h.symm⟩
    · refine .inr ⟨fun hd => hj (by have := writer_of ck.onew ho hd; rw [hw] at this; simpa using this), ?_⟩
      rw [upB_ne hj] at h
      unfold slotAt
      rw [hw]; exact h
/-- what is said of an operation's effect -/
theorem seen_get : ∀ {l : List Eff} {k : Nat}, seenOk dep n0 effs k l = true → ∀ {i : Nat} {e : Eff}, l[i]? = some e →
    (let p' := fun id => seesId dep n0 effs (k + i) id || (decide (baseOf n0 effs (k + i) ≤ id) && decide (id < baseOf n0 effs (k + i) + e.nw.length))
     e.v.ids p' = true ∧ (∀ b ∈ e.nw, b.ids p' = true) ∧ (∀ q ∈ e.wr, seesId dep n0 effs (k + i) q.1 = true ∧ (∀ b, q.2 = some b → b.ids p' = true) ∧ allWr (fun j => decide (j = k + i) || waits dep (k + i) j || waits dep j (k + i)) q.1 effs 0 = true) ∧ nodupB (e.wr.map (·.1)) = true)
  | [], k, _, i, e, h => by simp at h
  | e0 :: l, k, h, i, e, he => by
    simp only [seenOk, Bool.and_eq_true] at h
    cases i with
    | zero =>
      simp at he; subst he
      obtain ⟨⟨⟨⟨h1, h2⟩, h3⟩, h4⟩, -⟩ := h
      refine ⟨h1, fun b hb => List.all_eq_true.1 h2 b hb, fun q hq => ?_, h4⟩
      have := List.all_eq_true.1 h3 q hq
      simp only [Bool.and_eq_true] at this
      refine ⟨this.1.1, fun b hb => ?_, this.2⟩
      have h5 := this.1.2
      rw [hb] at h5; exact h5
    | succ i =>
      have := seen_get h.2 (i := i) (e := e) (by simpa using he)
      rwa [show k + 1 + i = k + (i + 1) by omega] at this
theorem seesId_pAt {i id : Nat} (hdep : ∀ j, waits dep i j = true → L j = true) (h : seesId dep n0 effs i id = true) : pAt n0 effs L id = true := by
  unfold seesId at h
  unfold pAt
  simp only [Bool.or_eq_true] at h ⊢
  rcases h with h | h
  · exact .inl h
  · right
    split at h
    · rename_i j b hc; rw [hc]; exact hdep j h
    · cases h
theorem nodup_pair {ws : Ws} (h : nodupB (ws.map (·.1)) = true) : ∀ q ∈ ws, ∀ r ∈ ws, q.1 = r.1 → q = r := by
  intro q hq r hr e
  obtain ⟨i, hi⟩ := List.getElem?_of_mem hq
  obtain ⟨j, hj⟩ := List.getElem?_of_mem hr
  have := nodupB_get h (i := i) (j := j) (x := q.1) (by simp [hi]) (by simp [hj, e])
  subst this
  rw [hi] at hj; simpa using hj
theorem find_wr {ws : Ws} (h : nodupB (ws.map (·.1)) = true) {id : Nat} {b : Option Blk} : (ws.find? (·.1 == id)).map (·.2) = some b ↔ (id, b) ∈ ws := by
  constructor
  · intro h1
    simp only [Option.map_eq_some_iff] at h1
    obtain ⟨q, h2, rfl⟩ := h1
    have h3 := List.find?_some h2
    simp only [beq_iff_eq] at h3
    rw [← h3]
    exact List.mem_of_find?_eq_some h2
  · intro h1
    cases hf : ws.find? (·.1 == id) with
    | none =>
      rw [List.find?_eq_none] at hf
      exact absurd (hf _ h1) (by simp)
    | some q =>
      have h3 := List.find?_some hf
      simp only [beq_iff_eq] at h3
      have := nodup_pair h q (List.mem_of_find?_eq_some hf) _ h1 h3
      rw [this]; rfl
theorem blk_up (ck : Ck P F K ops dep σ effs need) {i : Nat} {e : Eff} (hcl : ∀ i j, L i = true → waits dep i j = true → L j = true) (hlt : ∀ i j, waits dep i j = true → i < ops.length → j < i) (hLi : L i = false) (hdep : ∀ j, waits dep i j = true → L j = true) (he : effs[i]? = some e) (id : Nat) (b : Blk) (h : blkAt σ.bk.length σ effs (upB L i) id = some b) :
    (id, some b) ∈ e.wr ∨ (∃ k, id = baseOf σ.bk.length effs i + k ∧ e.nw[k]? = some b) ∨ ((∀ q ∈ e.wr, q.1 ≠ id) ∧ blkAt σ.bk.length σ effs L id = some b) := by
  obtain ⟨-, -, s3, s4⟩ := seen_get ck.seen he
  rw [Nat.zero_add] at s3
  cases hw : inWr id e with
  | true =>
    left
    have hall : allWr (fun j => decide (j = i) || waits dep i j || waits dep j i) id effs 0 = true := by
      unfold inWr at hw
      rw [List.any_eq_true] at hw
      obtain ⟨q, hq, hq'⟩ := hw
      rw [beq_iff_eq] at hq'
      rw [← hq']
      exact (s3 q hq).2.2
    have hf : findWr (upB L i) id effs 0 = (e.wr.find? (·.1 == id)).map (·.2) := findWr_at he (by rw [Nat.zero_add]; exact upB_eq i) hw fun j e' hj he' hw' => by
      rw [Nat.zero_add, upB_ne (by omega)]
      have := allWr_get hall he' hw'
      simp only [Nat.zero_add, Bool.or_eq_true, decide_eq_true_eq] at this
      have hjl : j < ops.length := by rw [← ck.len]; exact (List.getElem?_eq_some_iff.1 he').1
      rcases this with (h1 | h1) | h1
      · omega
      · have := hlt i j h1 (by omega); omega
      · cases hLj : L j with
        | false => rfl
        | true => rw [hcl j i hLj h1] at hLi; cases hLi
    unfold blkAt at h
    rw [hf] at h
    cases hfi : (e.wr.find? (·.1 == id)).map (·.2) with
    | none =>
      exfalso
      unfold inWr at hw
      rw [Option.map_eq_none_iff, List.find?_eq_none] at hfi
      rw [List.any_eq_true] at hw
      obtain ⟨q, hq, hq'⟩ := hw
      exact hfi q hq hq'
    | some r =>
      rw [hfi] at h
      simp only at h
      subst h
      exact (find_wr s4).1 hfi
  | false =>
    right
    have hnw : ∀ q ∈ e.wr, q.1 ≠ id := fun q hq heq => by
      unfold inWr at hw
      have := List.any_eq_false.1 hw q hq
      rw [heq] at this; simp at this
    have hf : findWr (upB L i) id effs 0 = findWr L id effs 0 := findWr_congr fun j e' he' hw' => by
      rw [Nat.zero_add]
      exact upB_ne fun hh => by subst hh; rw [he] at he'; simp at he'; subst he'; rw [hw] at hw'; cases hw'
    unfold blkAt at h
    rw [hf] at h
    split at h
    · rename_i r hr
      refine .inr ⟨hnw, ?_⟩
      unfold blkAt
      rw [hr]; exact h
    · rename_i hr
      split at h
      · rename_i hid
        refine .inr ⟨hnw, ?_⟩
        unfold blkAt
        rw [hr]; simp only [hid, if_true]; exact h
      · rename_i hid
        split at h
        · rename_i j b' hc
          split at h
          · rename_i hLj
            simp at h; subst h
            by_cases hji : j = i
            · subst hji
              left
              obtain ⟨i', e', h1, h2, h3, h4⟩ := creator_some hc
              rw [Nat.zero_add] at h1; subst h1
              rw [he] at h2; simp at h2; subst h2
              exact ⟨id - baseOf σ.bk.length effs j, by omega, h4⟩
            · refine .inr ⟨hnw, ?_⟩
              unfold blkAt
              rw [hr]; simp only [hid, if_false, hc]
              rw [upB_ne hji] at hLj
              rw [if_pos hLj]
          · cases h
        · cases h
theorem run_ok {i : Nat} {e : Eff} {q : List X} (h : runOp P F K ops dep n0 σ effs i = .ok e q) : ∃ o, ops[i]? = some o ∧
    ((guardM ops σ.pc (slotM ops dep σ effs i) o = some (.inl false) ∧ e = { v := .tup [] }) ∨ (guardM ops σ.pc (slotM ops dep σ effs i) o = some (.inl true) ∧ evalOp P F K σ.pc (opV (slotM ops dep σ effs i)) (blkM dep n0 σ effs i) (baseOf n0 effs i) o.op = some (e, q))) := by
  unfold runOp at h
  split at h
  · cases h
  · rename_i o ho
    refine ⟨o, ho, ?_⟩
    simp only at h
    split at h
    · cases h
    · cases h
    · rename_i hg
      simp at h
      exact .inl ⟨hg, h.1.symm⟩
    · rename_i hg
      split at h
      · rename_i e' q' he
        simp at h
        obtain ⟨rfl, rfl⟩ := h
        exact .inr ⟨hg, he⟩
      · unfold splitOf at h
        repeat' split at h
        all_goals cases h
/-- AN OPERATION, whenever it comes up -/
theorem step_op {opa : Array Oper} {Q : Exit → Act → World → Prop} {N : Act → World → Prop} (hr : ops = opa.toList) (ck : Ck P F K ops dep σ effs need) (hF : F.ok T) (hK : ∀ c ∈ K, c.Ok P T) (hpc : σ.pc.ok T η) (hneed : ∀ x ∈ need, (x.d T η).bool = true)
    (hcl : ∀ i j, L i = true → waits dep i j = true → L j = true) (hlt : ∀ i j, waits dep i j = true → i < ops.length → j < i) {i : Nat} (hi : i < ops.length) (hLi : L i = false) (hdep : ∀ j, waits dep i j = true → L j = true)
    (h : Rel T η S Z0 w0 σ.sl.length (fsAt ops σ.bk.length σ effs L) ρ Z a w)
    (hN : ∀ ρ' Z' a' w', (∀ id, id < σ.bk.length → ρ' id = ρ id) → Rel T η S Z0 w0 σ.sl.length (fsAt ops σ.bk.length σ effs (upB L i)) ρ' Z' a' w' → N a' w') : wpOp P opa Q i N a w := by
  obtain ⟨e, q, he, hrun, hq⟩ := ck.again i hi
  obtain ⟨o, ho, hor⟩ := run_ok hrun
  have ho' : opa[i]? = some o := by rw [hr, Array.getElem?_toList] at ho; exact ho
  have hd : ∀ t, o.dst = some t → t < σ.sl.length := fun t ht => ck.dst o (List.mem_of_getElem? ho) t ht
  have hsl : ∀ t v, slotM ops dep σ effs i t = some v → v.V T η ρ w Z (a.tmps.getD t undef) ∧ v.ids (pAt σ.bk.length effs L) = true := fun t v hv => by
    have := slot_le hcl hLi hdep hv
    exact ⟨h.sl t v this, h.isl t v this⟩
  obtain ⟨s1, s2, s3, s4⟩ := seen_get ck.seen he
  rw [Nat.zero_add] at s1 s2 s3
  have hfresh : ∀ k, k < e.nw.length → pAt σ.bk.length effs L (baseOf σ.bk.length effs i + k) = false := fun k hk => by
    unfold pAt
    have hc := creator_of (k := 0) (base := σ.bk.length) he (m := k) (b := e.nw[k]) (by simp [hk])
    rw [Nat.zero_add] at hc
    rw [hc]
    simp only [hLi, Bool.or_false, decide_eq_false_iff_not]
    have := baseOf_ge σ.bk.length effs i
    omega
  have hp : ∀ id, pAt σ.bk.length effs L id = true ∨ (baseOf σ.bk.length effs i ≤ id ∧ id < baseOf σ.bk.length effs i + e.nw.length) → pAt σ.bk.length effs (upB L i) id = true := fun id hid => by
    rcases hid with h1 | ⟨h1, h2⟩
    · unfold pAt at h1 ⊢
      simp only [Bool.or_eq_true] at h1 ⊢
      rcases h1 with h1 | h1
      · exact .inl h1
      · right
        split at h1
        · unfold upB; rw [h1]; simp
        · cases h1
    · obtain ⟨k, rfl⟩ : ∃ k, id = baseOf σ.bk.length effs i + k := ⟨id - baseOf σ.bk.length effs i, by omega⟩
      unfold pAt
      have hc := creator_of (k := 0) (base := σ.bk.length) he (m := k) (b := e.nw[k]'(by omega)) (by simp)
      rw [Nat.zero_add] at hc
      rw [hc]; simp [upB_eq]
  have hp' : ∀ id, (seesId dep σ.bk.length effs i id || (decide (baseOf σ.bk.length effs i ≤ id) && decide (id < baseOf σ.bk.length effs i + e.nw.length))) = true → pAt σ.bk.length effs (upB L i) id = true := fun id hid => by
    simp only [Bool.or_eq_true, Bool.and_eq_true, decide_eq_true_eq] at hid
    rcases hid with h1 | h1
    · exact hp id (.inl (seesId_pAt hdep h1))
    · exact hp id (.inr h1)
  -- the step itself
  have step : ∀ {v' : Value} {w' : World} {ρ' : Plc} {Z' : Nat → Prop}, Did T η ρ w Z e (baseOf σ.bk.length effs i) v' w' ρ' Z' → (∀ q ∈ e.wr, ∃ b, blkM dep σ.bk.length σ effs i q.1 = some b ∧ b.mut = true) → N (a.put o.dst v') w' := by
    intro v' w' ρ' Z' d hal
    refine hN ρ' Z' _ _ (fun id hid => d.old id (.inl (Nat.lt_of_lt_of_le hid (baseOf_ge _ _ _)))) ?_
    refine h.step d hd (fun q hq => ?_) (nodup_pair s4) hfresh (slot_up ck ho he) (blk_up ck hcl hlt hLi hdep he) hp (SV.ids_mono hp' s1) (fun id b hb => Blk.ids_mono hp' ((s3 _ hb).2.1 b rfl)) (fun b hb => Blk.ids_mono hp' (s2 b hb))
    obtain ⟨b, h1, h2⟩ := hal q hq
    exact ⟨b, blk_le hcl hLi hdep h1, h2⟩
  rcases hor with ⟨hg, rfl⟩ | ⟨hg, hev⟩
  · rw [hr] at hg
    have hw := guard_ok (ρ := ρ) (Z := Z) (w := w) hpc (fun t v hv => (hsl t v (by rw [← hr] at hv; exact hv)).1) hg
    unfold wpOp
    rw [ho']
    simp only [hw, Bool.false_eq_true, if_false]
    exact step (Did.pure h.mem.zlt (v := .tup []) ⟨[], rfl, rfl⟩) nofun
  · rw [hr] at hg
    have hw := guard_ok (ρ := ρ) (Z := Z) (w := w) hpc (fun t v hv => (hsl t v (by rw [← hr] at hv; exact hv)).1) hg
    have hop := opV_V (a := a) (fun t v hv => (hsl t v hv).1) (fun t v hv => (hsl t v hv).2)
    have hle : ∀ id b, blkM dep σ.bk.length σ effs i id = some b → (fsAt ops σ.bk.length σ effs L).bk id = some b := fun id b hb => blk_le hcl hLi hdep hb
    have hsees : Sees T η ρ w Z (opV (slotM ops dep σ effs i)) (blkM dep σ.bk.length σ effs i) a.eval (pAt σ.bk.length effs L) :=
      ⟨⟨fun id b hb => h.mem.bk id b (hle id b hb), fun id b hb => h.mem.own id b (hle id b hb), fun x y b c g hx hy => h.mem.inj x y b c g (hle x b hx) (hle y c hy), h.mem.zlt⟩, fun x v hv => (hop x v hv).1, fun x v hv => (hop x v hv).2, fun id b hb => h.ibk id b (hle id b hb), fun _ => rfl⟩
    obtain ⟨g1, g2⟩ := evalOp_good (o := o) hsees hF hK hpc hev (fun x hx => hneed x (hq x hx)) hfresh
    unfold wpOp
    rw [ho']
    simp only [hw, if_true]
    refine .inl (wp_of_does g1 ?_)
    rintro v' w' ⟨ρ', Z', d⟩
    exact step d g2
theorem ready_nil_of_full {md : Region.Mode} {ops : Array Oper} {l : Array Bool} (hs : l.size = ops.size) (h : l.toList.count false = 0) : Region.ready md ops l = [] := by
  rw [List.eq_nil_iff_forall_not_mem]
  intro i hi
  obtain ⟨h0, o, ho, -⟩ := mem_ready.1 hi
  have hlt : i < l.size := by rw [hs]; exact (Array.getElem?_eq_some_iff.1 ho).1
  have : l[i] = false := by simpa [hlt] using h0
  have hm : false ∈ l.toList := by rw [← this]; simp
  rw [List.count_eq_zero] at h
  exact h hm
/-- a relation that each operation that may come up keeps -/
theorem wpAnyH_inv {md : Region.Mode} {ops : Array Oper} {Q : Exit → Act → World → Prop} {I : Array Bool → Act → World → Prop} (hsz : ∀ l a w, I l a w → l.size = ops.size)
    (hstep : ∀ l a w, I l a w → ∀ i ∈ Region.ready md ops l, wpOp P ops Q i (I (l.setIfInBounds i true)) a w)
    (hend : ∀ l a w, I l a w → Region.ready md ops l = [] → Q .normal a w) :
    ∀ (fuel : Nat) (l : Array Bool) (a : Act) (w : World), l.toList.count false ≤ fuel → I l a w → wpAnyH P md ops Q (fun _ => True) fuel l a w
  | 0, l, a, w, hf, hI => by
    have := ready_nil_of_full (md := md) (hsz l a w hI) (by omega : l.toList.count false = 0)
    exact ⟨this, hend l a w hI this⟩
  | fuel + 1, l, a, w, hf, hI => ⟨hend l a w hI, fun i hi => wpOp_mono (fun a' w' h' => ⟨trivial, wpAnyH_inv hsz hstep hend fuel _ a' w' (by
      obtain ⟨h0, o, ho, -⟩ := mem_ready.1 hi
      have hlt : i < l.size := by rw [hsz l a w hI]; exact (Array.getElem?_eq_some_iff.1 ho).1
      have h1 : l[i] = false := by simpa [hlt] using h0
      have h2 : 0 < l.toList.count false := List.count_pos_iff.2 (by rw [← h1]; simp)
      rw [Array.toList_setIfInBounds, List.count_set (by simpa using hlt)]
      have h3 : l.toList[i]'(by simpa using hlt) = false := by simpa using h1
      rw [h3, if_pos (by decide), if_neg (by decide)]; omega) h'⟩) (hstep l a w hI i hi)⟩
theorem wait_lt {ops : List Oper} {dep : List Nat} (h : depOk ops dep = true) {i j : Nat} (hi : i < ops.length) (hj : (dep.getD i 0).testBit j = true) : j < i := by
  unfold depOk at h
  have h1 := List.all_eq_true.1 h i (by simpa using hi)
  rw [Bool.and_eq_true, decide_eq_true_eq] at h1
  rcases Nat.lt_or_ge j i with hlt | hge
  · exact hlt
  · rw [Nat.testBit_lt_two_pow (Nat.lt_of_lt_of_le h1.1 (Nat.pow_le_pow_right (by decide) hge))] at hj
    cases hj
/-- what comes up has all that it waits for behind it -/
theorem dep_ready {ops : Array Oper} {dep : List Nat} (h : depOk ops.toList dep = true) {l : Array Bool} (hcl : ∀ i j, l.getD i false = true → (dep.getD i 0).testBit j = true → l.getD j false = true) {i : Nat} (hi : i ∈ Region.ready .any ops l) :
    ∀ j, (dep.getD i 0).testBit j = true → l.getD j false = true := by
  intro j hj
  obtain ⟨h0, o, ho, hall⟩ := mem_ready.1 hi
  have hin : i < ops.toList.length := by simpa using (Array.getElem?_eq_some_iff.1 ho).1
  have hji := wait_lt h hin hj
  unfold depOk at h
  have h1 := List.all_eq_true.1 h i (by simpa using hin)
  rw [Bool.and_eq_true] at h1
  have h2 := List.all_eq_true.1 h1.2 j (by simp at hin ⊢; omega)
  simp only [hj, Bool.not_true, Bool.false_or, Bool.and_eq_true, decide_eq_true_eq] at h2
  have h3 := h2.2
  rw [Array.getElem?_toList, ho] at h3
  simp only [List.any_eq_true] at h3
  obtain ⟨e, he, h4⟩ := h3
  simp only [Bool.and_eq_true, decide_eq_true_eq, Bool.or_eq_true, beq_iff_eq] at h4
  have hL := hall e (by simpa using he) h4.1.1
  rcases h4.2 with h5 | h5
  · rw [← h5]; exact hL
  · exact hcl _ _ hL h5
theorem dep_closed {ops : List Oper} {dep : List Nat} (h : depOk ops dep = true) {L : Nat → Bool} (hd : ∀ i, L i = true → ∀ o, ops[i]? = some o → ∀ e ∈ o.after, Region.binds .any e = true → L e.on = true) (hlt : ∀ i, L i = true → i < ops.length) :
    ∀ i j, L i = true → (dep.getD i 0).testBit j = true → L j = true := by
  intro i
  induction i using Nat.strongRecOn with
  | _ i ih =>
    intro j hi hj
    have hin := hlt i hi
    have hji : j < i := wait_lt h hin hj
    unfold depOk at h
    have h1 := List.all_eq_true.1 h i (by simpa using hin)
    rw [Bool.and_eq_true] at h1
    have h2 := List.all_eq_true.1 h1.2 j (by simp; omega)
    simp only [hj, Bool.not_true, Bool.false_or, Bool.and_eq_true, decide_eq_true_eq] at h2
    have h3 := h2.2
    split at h3
    · rename_i o ho
      rw [List.any_eq_true] at h3
      obtain ⟨e, he, h4⟩ := h3
      simp only [Bool.and_eq_true, decide_eq_true_eq, Bool.or_eq_true, beq_iff_eq] at h4
      have hL := hd i hi o ho e (by simpa using he) h4.1.1
      rcases h4.2 with h5 | h5
      · rw [← h5]; exact hL
      · exact ih e.on h4.1.2 j hL h5
    · cases h3
theorem all_in {ops : Array Oper} {l : Array Bool} (ht : orderOk ops.toList = true) (hr : Region.ready .any ops l = []) (hs : l.size = ops.size) : ∀ i, i < ops.size → l.getD i false = true := by
  intro i
  induction i using Nat.strongRecOn with
  | _ i ih =>
    intro hi
    cases h : l.getD i false with
    | true => rfl
    | false =>
      exfalso
      have : i ∈ Region.ready .any ops l := mem_ready.2 ⟨by simpa [hs, hi] using h, ops[i], by simp [hi], fun e he hb => by
        unfold orderOk at ht
        have h1 := List.all_eq_true.1 ht i (by simpa using hi)
        simp only [Array.getElem?_toList, Array.getElem?_eq_getElem hi, List.all_eq_true] at h1
        have h1 := h1 e (by simpa using he)
        rw [hb] at h1
        have h1 : e.on < i := by simpa using h1
        exact ih e.on h1 (by omega)⟩
      rw [hr] at this; cases this
theorem set_upB {l : Array Bool} {i : Nat} (hi : i < l.size) : (fun j => (l.setIfInBounds i true).getD j false) = upB (fun j => l.getD j false) i := by
  funext j
  unfold upB
  by_cases h : j = i
  · subst h; simp [hi]
  · simp only [h, decide_false, Bool.false_or, Array.getD_eq_getD_getElem?, Array.getElem?_setIfInBounds_ne (Ne.symm h)]
end
end
end Go.Sz
