/- The evaluator: whole regions, drawn or not. -/
import Derived.Test.YtjeenfnfkndgaaaZQ
namespace Go.Sz
open Go Go.RowKit
noncomputable section
def St.fs (σ : St) : FS := ⟨fun t => σ.sl.getD t none, σ.b, fun id => decide (id < σ.bk.length)⟩
/-- a state lies in memory -/
def Lies (T : Tab) (η : Env) (S : List Nat) (Z0 : Nat → Prop) (w0 : World) (σ : St) (ρ : Plc) (Z : Nat → Prop) (a : Act) (w : World) : Prop :=
  Rel T η S Z0 w0 σ.sl.length σ.fs ρ Z a w ∧ σ.pc.ok T η
section
variable {P : Program} {T : Tab} {η : Env} {ρ : Plc} {S : List Nat} {w0 : World} {Z0 Z : Nat → Prop} {n m : Nat} {a : Act} {w : World} {F : Fs} {K : List Con} {ops : List Oper} {dep : List Nat} {σ : St} {effs : List Eff} {need : List X} {L : Nat → Bool}
theorem Rel.mono {fs fs' : FS} (h : Rel T η S Z0 w0 m fs ρ Z a w) (hs : ∀ t u, fs'.sl t = some u → fs.sl t = some u) (hb : ∀ id b, fs'.bk id = some b → fs.bk id = some b) (hp : ∀ id, fs.p id = true → fs'.p id = true) : Rel T η S Z0 w0 m fs' ρ Z a w :=
  ⟨h.len, h.nod, fun t v hv => h.sl t v (hs t v hv), ⟨fun id b hb' => h.mem.bk id b (hb id b hb'), fun id b hb' => h.mem.own id b (hb id b hb'), fun x y b c g hx hy => h.mem.inj x y b c g (hb x b hx) (hb y c hy), h.mem.zlt⟩, h.keep, fun id b hb' => h.own id b (hb id b hb'), h.z0, h.zn,
    fun t v hv => SV.ids_mono hp (h.isl t v (hs t v hv)), fun id b hb' => ⟨Blk.ids_mono hp (h.ibk id b (hb id b hb')).1, hp id (h.ibk id b (hb id b hb')).2⟩⟩
theorem Rel.drew {fs : FS} (h : Rel T η S Z0 w0 m fs ρ Z a w) : Rel T η S Z0 w0 m fs ρ Z a w.drew := by
  have d : Did T η ρ w Z { v := .tup [] } 0 undef w.drew ρ Z :=
    ⟨rfl, rfl, rfl, Nat.le_refl _, fun _ _ => rfl, ⟨[], rfl, rfl⟩, fun _ _ _ => rfl, (fun _ _ h => nomatch h), (fun _ _ h => nomatch h), (fun _ _ h => nomatch h), (fun _ _ _ _ _ h => nomatch h), fun _ h => h, h.mem.zlt, fun _ h => .inl h⟩
  exact h.step (dst := none) d nofun nofun nofun nofun (fun t u hu => .inr ⟨nofun, hu⟩) (fun id b hb => .inr (.inr ⟨nofun, hb⟩)) (fun i hid => hid.elim (fun h => h) fun hh => absurd hh.2 (by simp)) rfl nofun nofun
theorem at_start : Rel T η S Z0 w0 m σ.fs ρ Z a w → Rel T η S Z0 w0 m (fsAt ops σ.bk.length σ effs (fun _ => false)) ρ Z a w := fun h => by
  refine h.mono (fun t u hu => ?_) (fun id b hb => ?_) (fun id hid => ?_)
  · simp only [fsAt, slotAt] at hu
    split at hu
    · exact hu
    · simp only [Bool.false_eq_true, if_false] at hu; exact hu
  · simp only [fsAt, blkAt, findWr_false] at hb
    split at hb
    · exact hb
    · split at hb
      · simp at hb
      · cases hb
  · simp only [St.fs, decide_eq_true_eq] at hid
    simp [fsAt, pAt, hid]
theorem slotsAfter_get : ∀ (l : List (Option SV)) (k t : Nat), (slotsAfter ops effs k l)[t]? = (l[t]?).map fun v => match writer ops (k + t) with | some j => effV effs j | none => v
  | [], k, t => by simp [slotsAfter]
  | v :: l, k, 0 => by simp [slotsAfter]; rfl
  | v :: l, k, t + 1 => by
    simp only [slotsAfter, List.getElem?_cons_succ, slotsAfter_get l (k + 1) t]
    rw [show k + 1 + t = k + (t + 1) by omega]
theorem slotsAfter_len : ∀ (l : List (Option SV)) (k : Nat), (slotsAfter ops effs k l).length = l.length
  | [], k => rfl
  | v :: l, k => by simp [slotsAfter, slotsAfter_len l]
theorem at_end (ck : Ck P F K ops dep σ effs need) (hall : ∀ i, i < ops.length → L i = true) (h : Rel T η S Z0 w0 m (fsAt ops σ.bk.length σ effs L) ρ Z a w) : Rel T η S Z0 w0 m (after ops σ.bk.length σ effs).fs ρ Z a w := by
  have hL : ∀ {j : Nat} {e : Eff}, effs[j]? = some e → L j = true := fun {j e} he => hall j (by rw [← ck.len]; exact (List.getElem?_eq_some_iff.1 he).1)
  have hbl : ∀ id, blkAt σ.bk.length σ effs L id = blkAt σ.bk.length σ effs (fun _ => true) id := fun id => by
    unfold blkAt
    have : findWr L id effs 0 = findWr (fun _ => true) id effs 0 := findWr_congr fun i e he _ => by rw [Nat.zero_add]; exact hL he
    rw [this]
    split
    · rfl
    · split
      · rfl
      · split
        · rename_i j b hc
          obtain ⟨i, e, h1, h2, -, -⟩ := creator_some hc
          rw [Nat.zero_add] at h1; subst h1
          simp [hL h2]
        · rfl
  refine h.mono (fun t u hu => ?_) (fun id b hb => ?_) (fun id hid => ?_)
  · simp only [St.fs, after, List.getD_eq_getElem?_getD, slotsAfter_get, Nat.zero_add] at hu
    show slotAt ops σ effs L t = some u
    unfold slotAt
    cases hs : σ.sl[t]? with
    | none => rw [hs] at hu; simp at hu
    | some v =>
      rw [hs] at hu
      simp only [Option.map_some, Option.getD_some] at hu
      split
      · rename_i hw; rw [hw] at hu; rw [List.getD_eq_getElem?_getD, hs]; exact hu
      · rename_i j hw
        rw [hw] at hu
        obtain ⟨o, ho, -⟩ := writer_some hw
        rw [hall j (List.getElem?_eq_some_iff.1 ho).1]
        exact hu
  · show blkAt σ.bk.length σ effs L id = some b
    have hb : (after ops σ.bk.length σ effs).bk.getD id none = some b := hb
    unfold after at hb
    simp only [List.getD_eq_getElem?_getD, List.getElem?_map] at hb
    rw [hbl]
    by_cases hid : id < baseOf σ.bk.length effs effs.length
    · rw [List.getElem?_range hid] at hb
      simpa using hb
    · rw [List.getElem?_eq_none (by simpa using hid)] at hb
      simp at hb
  · show decide (id < (after ops σ.bk.length σ effs).bk.length) = true
    unfold after
    simp only [List.length_map, List.length_range, decide_eq_true_eq]
    have hid : pAt σ.bk.length effs L id = true := hid
    unfold pAt at hid
    simp only [Bool.or_eq_true, decide_eq_true_eq] at hid
    rcases hid with h1 | h1
    · exact Nat.lt_of_lt_of_le h1 (baseOf_ge _ _ _)
    · split at h1
      · rename_i j b hc
        obtain ⟨i, e, -, h2, h3, h4⟩ := creator_some hc
        have h5 := (List.getElem?_eq_some_iff.1 h4).1
        have h6 : baseOf σ.bk.length effs i + e.nw.length ≤ baseOf σ.bk.length effs effs.length := by
          unfold baseOf
          have hi := (List.getElem?_eq_some_iff.1 h2).1
          have e1 : effs = effs.take i ++ (e :: effs.drop (i + 1)) := by
            have := List.take_append_drop i effs
            conv => lhs; rw [← this]
            rw [List.drop_eq_getElem_cons hi]
            have := (List.getElem?_eq_some_iff.1 h2).2
            rw [this]
          rw [List.take_length]
          conv => rhs; rw [e1]
          simp; omega
        omega
      · cases h1
/-- A REGION -/
theorem region_ok {draw : Bool} {id : Nat} {opa : Array Oper} {Q : Exit → Act → World → Prop} (h : region P F K draw σ opa = .ok effs need) (hm : P.follows .mixedOrders = true) (hF : F.ok T) (hK : ∀ c ∈ K, c.Ok P T) (hneed : ∀ x ∈ need, (x.d T η).bool = true)
    (hr : Lies T η S Z0 w0 σ ρ Z a w) (hd : draw = true) (hQ : ∀ ρ' Z' a' w', (∀ id, id < σ.bk.length → ρ' id = ρ id) → Lies T η S Z0 w0 (after opa.toList σ.bk.length σ effs) ρ' Z' a' w' → Q .normal a' w') : (Code.region id opa draw).wp P Q a w := by
  unfold region at h
  split at h
  · rename_i effs' need' hsim
    split at h
    · rename_i hck
      simp at h
      obtain ⟨rfl, rfl⟩ := h
      rw [Bool.and_eq_true] at hck
      obtain ⟨ck, hdr⟩ := Ck.of hck.1 hck.2
      obtain ⟨hd1, hd2⟩ := hdr hd
      have hlen : (after opa.toList σ.bk.length σ effs').sl.length = σ.sl.length := slotsAfter_len _ _
      have hfin : ∀ ρ' Z' a' w' L, (∀ id, id < σ.bk.length → ρ' id = ρ id) → (∀ i, i < opa.toList.length → L i = true) → Rel T η S Z0 w0 σ.sl.length (fsAt opa.toList σ.bk.length σ effs' L) ρ' Z' a' w' → Q .normal a' w' := by
        intro ρ' Z' a' w' L h1 h2 h3
        exact hQ ρ' Z' a' w' h1 ⟨by rw [hlen]; exact at_end ck h2 h3, hr.2⟩
      subst hd
      refine wp_region_held_drew (S := fun _ => True) hm trivial fun _ => ?_
      have h0 := at_start (ops := opa.toList) (effs := effs') hr.1.drew
      have hlt : ∀ i j, waits (depOf true opa) i j = true → i < opa.toList.length → j < i := fun i j h1 h2 => wait_lt hd1 h2 h1
      refine wpAnyH_inv (I := fun l a w => l.size = opa.size ∧ (∀ i j, l.getD i false = true → waits (depOf true opa) i j = true → l.getD j false = true) ∧
        ∃ ρ' Z', (∀ id, id < σ.bk.length → ρ' id = ρ id) ∧ Rel T η S Z0 w0 σ.sl.length (fsAt opa.toList σ.bk.length σ effs' (fun j => l.getD j false)) ρ' Z' a w) (fun l a w h => h.1) ?_ ?_ _ _ _ _ ?_ ⟨by simp, ?_, ρ, Z, fun _ _ => rfl, ?_⟩
      · rintro l a w ⟨hs, hcl, ρ', Z', hρ, hR⟩ i hi
        obtain ⟨hf, o, ho, -⟩ := mem_ready.1 hi
        have hin : i < opa.size := (Array.getElem?_eq_some_iff.1 ho).1
        have hf' : l.getD i false = false := by simpa [hs, hin] using hf
        have hdep := dep_ready hd1 hcl hi
        refine step_op (L := fun j => l.getD j false) rfl ck hF hK hr.2 hneed (fun i j h1 h2 => hcl i j h1 h2) hlt (by simpa using hin) hf' (fun j hj => hdep j hj) hR fun ρ'' Z'' a' w' h1 h2 => ⟨by simpa using hs, ?_, ρ'', Z'', fun id hid => (h1 id hid).trans (hρ id hid), ?_⟩
        · intro x y hx hy
          have e : ∀ j, (l.setIfInBounds i true).getD j false = upB (fun j => l.getD j false) i j := congrFun (set_upB (l := l) (i := i) (by omega))
          rw [e] at hx ⊢
          unfold upB at *
          simp only [Bool.or_eq_true, decide_eq_true_eq] at hx ⊢
          right
          rcases hx with rfl | hx
          · exact hdep y hy
          · exact hcl x y hx hy
        · rw [set_upB (by omega)]; exact h2
      · rintro l a w ⟨hs, hcl, ρ', Z', hρ, hR⟩ hnil
        exact hfin ρ' Z' a w _ hρ (fun i hi => all_in hd2 hnil hs i (by simpa using hi)) hR
      · have := List.count_le_length (a := false) (l := (Array.replicate opa.size false).toList)
        simp
      · intro i j hi
        rw [Array.getD_eq_getD_getElem?] at hi
        cases hg : (Array.replicate opa.size false)[i]? with
        | none => rw [hg] at hi; cases hi
        | some b =>
          rw [hg] at hi
          have := Array.mem_of_getElem? hg
          simp at this
          rw [this.2] at hi; cases hi
      · have : (fun j => (Array.replicate opa.size false).getD j false) = fun _ => false := by
          funext j
          rw [Array.getD_eq_getD_getElem?]
          cases hg : (Array.replicate opa.size false)[j]? with
          | none => rfl
          | some b =>
            have := Array.mem_of_getElem? hg
            simp at this
            simp [this.2]
        rw [this]
        exact h0
    · cases h
  · rename_i x hx
    exact (hx effs need h).elim
end
end
end Go.Sz
