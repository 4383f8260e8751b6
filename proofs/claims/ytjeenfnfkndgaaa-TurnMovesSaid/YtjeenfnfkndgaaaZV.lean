/- The evaluator: operations one after the other; code. -/
import Derived.Test.YtjeenfnfkndgaaaZU
import Derived.LoopN
namespace Go.Sz
open Go Go.RowKit
noncomputable section
section
variable {α β : Type}
theorem natK_eq (n : Nat) (k : Nat → α) : natK n k = k n := by cases n <;> rfl
theorem intK_eq (n : Int) (k : Int → α) : intK n k = k n := by cases n <;> simp only [intK, natK_eq]
theorem boolK_eq (b : Bool) (k : Bool → α) : boolK b k = k b := by cases b <;> rfl
theorem D.fc_eq (d : D) (k : D → α) : d.fc k = k d := by cases d <;> simp only [D.fc, intK_eq, boolK_eq]
theorem X.fc_eq : ∀ (x : X) (k : X → α), x.fc k = k x := by
  intro x
  induction x with
  | lit d => intro k; simp only [X.fc, D.fc_eq]
  | var j => intro k; rfl
  | o1 o a ih => intro k; simp only [X.fc, ih]
  | fn f a ih => intro k; simp only [X.fc, ih]
  | o2 o a b iha ihb => intro k; simp only [X.fc, iha, ihb]
  | o3 o a b c iha ihb ihc => intro k; simp only [X.fc, iha, ihb, ihc]
theorem Sc.fc_eq (c : Sc) (k : Sc → α) : c.fc k = k c := by cases c <;> simp only [Sc.fc, X.fc_eq]
theorem fcL_eq : ∀ (l : List Sc) (k : List Sc → α), fcL l k = k l
  | [], k => rfl
  | c :: l, k => by simp only [fcL, Sc.fc_eq, fcL_eq l]
theorem S1.fc_eq (c : S1) (k : S1 → α) : c.fc k = k c := by cases c <;> simp only [S1.fc, Sc.fc_eq, fcL_eq]
theorem fcT_eq : ∀ (l : List S1) (k : List S1 → α), fcT l k = k l
  | [], k => rfl
  | c :: l, k => by simp only [fcT, S1.fc_eq, fcT_eq l]
theorem SV.fc_eq (c : SV) (k : SV → α) : c.fc k = k c := by cases c <;> simp only [SV.fc, S1.fc_eq, fcT_eq]
theorem Blk.fc_eq (c : Blk) (k : Blk → α) : c.fc k = k c := by cases c <;> simp only [Blk.fc, X.fc_eq, fcL_eq]
theorem fcB_eq : ∀ (l : List Blk) (k : List Blk → α), fcB l k = k l
  | [], k => rfl
  | c :: l, k => by simp only [fcB, Blk.fc_eq, fcB_eq l]
theorem fcW_eq : ∀ (l : List (Nat × Option Blk)) (k : List (Nat × Option Blk) → α), fcW l k = k l
  | [], k => rfl
  | (i, none) :: l, k => by simp only [fcW, fcW_eq l]
  | (i, some v) :: l, k => by simp only [fcW, Blk.fc_eq, fcW_eq l]
theorem Eff.fc_eq (e : Eff) (k : Eff → α) : e.fc k = k e := by cases e; simp only [Eff.fc, SV.fc_eq, fcW_eq, fcB_eq]
theorem fcOS_eq : ∀ (l : List (Option SV)) (k : List (Option SV) → α), fcOS l k = k l
  | [], k => rfl
  | none :: l, k => by simp only [fcOS, fcOS_eq l]
  | some v :: l, k => by simp only [fcOS, SV.fc_eq, fcOS_eq l]
theorem fcOB_eq : ∀ (l : List (Option Blk)) (k : List (Option Blk) → α), fcOB l k = k l
  | [], k => rfl
  | none :: l, k => by simp only [fcOB, fcOB_eq l]
  | some v :: l, k => by simp only [fcOB, Blk.fc_eq, fcOB_eq l]
theorem fcPC_eq : ∀ (l : PC) (k : PC → α), fcPC l k = k l
  | [], k => rfl
  | (x, b) :: l, k => by simp only [fcPC, X.fc_eq, boolK_eq, fcPC_eq l]
theorem St.fc_eq (σ : St) (k : St → α) : σ.fc k = k σ := by cases σ; simp only [St.fc, fcOS_eq, fcOB_eq, fcPC_eq, natK_eq]
theorem genAllK_eq (M n0 : Nat) : ∀ (l : List St) (h : St) (k : St → α), genAllK M n0 h l k = k (genAll M n0 h l)
  | [], h, k => rfl
  | b :: l, h, k => by simp only [genAllK, genAll, St.fc_eq, genAllK_eq M n0 l]
theorem findHeadK_eq (M n0 : Nat) (body : St → Tree) : ∀ (m : Nat) (h : St) (k : St → α), findHeadK M n0 body m h k = k (findHead M n0 body m h)
  | 0, h, k => rfl
  | m + 1, h, k => by
    simp only [findHeadK, findHead, genAllK_eq, findHeadK_eq M n0 body m]
    split <;> rfl
theorem setK_eq : ∀ (l : List β) (n : Nat) (v : β) (k : List β → α), setK l n v k = k (l.set n v)
  | [], n, v, k => rfl
  | _ :: l, 0, v, k => rfl
  | a :: l, n + 1, v, k => by simp only [setK, setK_eq l, List.set_cons_succ]
theorem wrK_eq : ∀ (r : List (Nat × Option Blk)) (l : List (Option Blk)) (k : List (Option Blk) → α), wrK r l k = k (r.foldl (fun l q => l.set q.1 q.2) l)
  | [], l, k => rfl
  | q :: r, l, k => by simp only [wrK, setK_eq, wrK_eq r, List.foldl_cons]
theorem someK_eq : ∀ (l : List Blk) (k : List (Option Blk) → α), someK l k = k (l.map some)
  | [], k => rfl
  | b :: l, k => by simp only [someK, someK_eq l, List.map_cons]
theorem appK_eq : ∀ (l r : List β) (k : List β → α), appK l r k = k (l ++ r)
  | [], r, k => rfl
  | b :: l, r, k => by simp only [appK, appK_eq l, List.cons_append]
theorem effK_eq (σ : St) (dst : Option Tmp) (e : Eff) (k : St → α) : σ.effK dst e k = k (σ.eff dst e) := by
  cases σ; cases dst <;> simp only [St.effK, wrK_eq, someK_eq, appK_eq, setK_eq, St.eff]
end
theorem foldl_set {id : Nat} {b : Blk} : ∀ {ws : List (Nat × Option Blk)} {l : List (Option Blk)}, (ws.foldl (fun l q => l.set q.1 q.2) l)[id]? = some (some b) → (id, some b) ∈ ws ∨ ((∀ q ∈ ws, q.1 ≠ id) ∧ l[id]? = some (some b))
  | [], l, h => .inr ⟨nofun, h⟩
  | q :: ws, l, h => by
    rw [List.foldl_cons] at h
    rcases foldl_set h with h1 | ⟨h1, h2⟩
    · exact .inl (List.mem_cons_of_mem _ h1)
    · rw [List.getElem?_set] at h2
      by_cases hq : q.1 = id
      · rw [if_pos hq] at h2
        split at h2
        · simp only [Option.some.injEq] at h2
          exact .inl (by rw [← hq, ← h2]; exact List.mem_cons_self)
        · cases h2
      · rw [if_neg hq] at h2
        refine .inr ⟨fun r hr => ?_, h2⟩
        rcases List.mem_cons.1 hr with rfl | hr
        · exact hq
        · exact h1 r hr
theorem foldl_len : ∀ {ws : List (Nat × Option Blk)} {l : List (Option Blk)}, (ws.foldl (fun l q => l.set q.1 q.2) l).length = l.length
  | [], l => rfl
  | q :: ws, l => by rw [List.foldl_cons, foldl_len, List.length_set]
def Ex.to : Ex → Exit
  | .normal => .normal
  | .exit id => .exit id
  | .ret => .ret
/-- a later state -/
structure Ext (M d : Nat) (B : BT) (η : Env) (σ : St) (ρ : Plc) (B' : BT) (η' : Env) (σ' : St) (ρ' : Plc) : Prop where
  le : M ≤ σ'.bk.length
  at_ : ∀ id, id < M → ρ' id = ρ id
  nv : σ.nv ≤ σ'.nv
  ag : Agree σ.nv η η'
  sl : σ'.sl.length = σ.sl.length
  bt : ∀ k, k < d → B' k = B k
section
variable {P : Program} {T : Tab} {η η' η'' : Env} {ρ ρ' ρ'' : Plc} {S : List Nat} {w0 : World} {Z0 Z Z' : Nat → Prop} {n m M d : Nat} {a : Act} {w w' : World} {F : Fs} {K : List Con} {σ σ' σ'' : St} {Lf : Ex → St → BT → Env → Prop} {B B' B'' : BT} {sym : List Nat}
theorem Ext.refl (h : M ≤ σ.bk.length) : Ext M d B η σ ρ B η σ ρ := ⟨h, fun _ _ => rfl, Nat.le_refl _, Agree.refl _ _, rfl, fun _ _ => rfl⟩
theorem Ext.trans (h : Ext M d B η σ ρ B' η' σ' ρ') (h' : Ext M d B' η' σ' ρ' B'' η'' σ'' ρ'') : Ext M d B η σ ρ B'' η'' σ'' ρ'' :=
  ⟨h'.le, fun id hid => (h'.at_ id hid).trans (h.at_ id hid), Nat.le_trans h.nv h'.nv, h.ag.trans h'.ag h.nv, h'.sl.trans h.sl, fun k hk => (h'.bt k hk).trans (h.bt k hk)⟩
/-- an effect on a state -/
theorem eff_step {e : Eff} {dst : Option Tmp} {v' : Value} (h : Lies T η S Z0 w0 σ ρ Z a w) (d : Did T η ρ w Z e σ.bk.length v' w' ρ' Z') (hd : ∀ t, dst = some t → t < σ.sl.length) (alive : ∀ q ∈ e.wr, ∃ b, σ.b q.1 = some b ∧ b.mut = true) (hf : e.fits σ.bk.length = true) :
    Lies T η S Z0 w0 (σ.eff dst e) ρ' Z' (a.put dst v') w' := by
  unfold Eff.fits at hf
  simp only [Bool.and_eq_true, List.all_eq_true] at hf
  obtain ⟨⟨⟨f1, f2⟩, f3⟩, f4⟩ := hf
  have hlen : (σ.eff dst e).bk.length = σ.bk.length + e.nw.length := by simp [St.eff, foldl_len]
  have hsl : (σ.eff dst e).sl.length = σ.sl.length := by cases dst <;> simp [St.eff]
  have hp : ∀ id, (fun id => decide (id < σ.bk.length + e.nw.length)) id = true → (σ.eff dst e).fs.p id = true := fun id hid => by simpa only [St.fs, hlen] using hid
  refine ⟨?_, h.2⟩
  rw [hsl]
  refine h.1.step d hd alive (nodup_pair f4) (fun k hk => by simp [St.fs]) (fun t u hu => ?_) (fun id b hb => ?_) (fun id hid => ?_) (SV.ids_mono hp f1) (fun id b hb => ?_) (fun b hb => Blk.ids_mono hp (f2 b hb))
  · cases dst with
    | none => exact .inr ⟨nofun, hu⟩
    | some t' =>
      have hu : (σ.sl.set t' (some e.v)).getD t none = some u := hu
      rw [List.getD_eq_getElem?_getD, List.getElem?_set] at hu
      by_cases ht : t' = t
      · subst ht
        simp [hd t' rfl] at hu
        exact .inl ⟨rfl, hu.symm⟩
      · rw [if_neg ht] at hu
        exact .inr ⟨fun hh => ht (by simpa using hh), by show σ.sl.getD t none = some u; rw [List.getD_eq_getElem?_getD]; exact hu⟩
  · have hb := getD_someB (l := (σ.eff dst e).bk) hb
    simp only [St.eff] at hb
    rw [List.getElem?_append, foldl_len] at hb
    split at hb
    · rcases foldl_set hb with h1 | ⟨h1, h2⟩
      · exact .inl h1
      · exact .inr (.inr ⟨h1, by simp [St.fs, St.b, h2]⟩)
    · rename_i hge
      refine .inr (.inl ⟨id - σ.bk.length, by omega, ?_⟩)
      rw [List.getElem?_map] at hb
      simpa using hb
  · simp only [St.fs, decide_eq_true_eq, hlen] at hid ⊢
    omega
  · have := f3 _ hb
    simp only at this
    exact Blk.ids_mono hp this.2
theorem seqR_ok {opa : Array Oper} {id : Nat} {Q : Exit → Act → World → Prop} (hF : F.ok T) (hK : ∀ c ∈ K, c.Ok P T) : ∀ (n k : Nat) (l : List Oper) (σ : St) (ρ : Plc) (Z : Nat → Prop) (a : Act) (w : World), opa.toList.drop k = l → (∀ o ∈ opa.toList, ∀ t, o.dst = some t → t < σ.sl.length) → M ≤ σ.bk.length →
    (seqR P F K opa.toList id n l σ).sat T Lf B η → Lies T η S Z0 w0 σ ρ Z a w →
    (∀ σ' ρ' Z' a' w', Lf .normal σ' B η → Lies T η S Z0 w0 σ' ρ' Z' a' w' → Ext M d B η σ ρ B η σ' ρ' → Q .normal a' w') → wpOps P opa Q (List.range' k l.length) a w := by
  intro n
  induction n with
  | zero => intro k l σ ρ Z a w _ _ _ h; simp [seqR, Tree.sat] at h
  | succ n ih =>
    intro k l σ ρ Z a w hl hd hM h hL hQ
    cases l with
    | nil =>
      simp only [seqR, Tree.sat] at h
      exact hQ σ ρ Z a w h hL (Ext.refl hM)
    | cons o l =>
      have hk : opa.toList[k]? = some o := by
        have : (opa.toList.drop k)[0]? = some o := by rw [hl]; rfl
        rwa [List.getElem?_drop, Nat.add_zero] at this
      have ho : opa[k]? = some o := by rw [Array.getElem?_toList] at hk; exact hk
      have hdr : opa.toList.drop (k + 1) = l := by rw [← List.tail_drop, hl]; rfl
      have hdo : ∀ t, o.dst = some t → t < σ.sl.length := hd o (List.mem_of_getElem? hk)
      have hsl : ∀ t v, σ.sl.getD t none = some v → v.V T η ρ w Z (a.tmps.getD t undef) := fun t v hv => hL.1.sl t v hv
      have ext : ∀ {e : Eff} {ρ1 : Plc}, (∀ id, (id < σ.bk.length ∨ σ.bk.length + e.nw.length ≤ id) → ρ1 id = ρ id) → ∀ {σ' ρ'}, Ext M d B η (σ.eff o.dst e) ρ1 B η σ' ρ' → Ext M d B η σ ρ B η σ' ρ' := fun {e ρ1} hρ {σ' ρ'} h3 =>
        ⟨h3.le, fun id hid => (h3.at_ id hid).trans (hρ id (.inl (by omega))), h3.nv, h3.ag, h3.sl.trans (by cases o.dst <;> simp [St.eff]), h3.bt⟩
      have split : ∀ {x : X}, (Tree.br x (seqR P F K opa.toList id n (o :: l) (σ.assume x true)) (seqR P F K opa.toList id n (o :: l) (σ.assume x false))).sat T Lf B η → wpOps P opa Q (List.range' k (o :: l).length) a w := fun {x} h => by
        cases hx : (x.d T η).bool with
        | true => exact ih k (o :: l) (σ.assume x true) ρ Z a w hl hd hM (h.1 hx) (hL.assume hx) fun σ' ρ' Z' a' w' h1 h2 h3 => hQ σ' ρ' Z' a' w' h1 h2 ⟨h3.le, h3.at_, h3.nv, h3.ag, h3.sl, h3.bt⟩
        | false => exact ih k (o :: l) (σ.assume x false) ρ Z a w hl hd hM (h.2 hx) (hL.assume hx) fun σ' ρ' Z' a' w' h1 h2 h3 => hQ σ' ρ' Z' a' w' h1 h2 ⟨h3.le, h3.at_, h3.nv, h3.ag, h3.sl, h3.bt⟩
      have next : ∀ {e : Eff} {v' : Value} {w' : World} {ρ' : Plc} {Z' : Nat → Prop}, Did T η ρ w Z e σ.bk.length v' w' ρ' Z' → (∀ q ∈ e.wr, ∃ b, σ.b q.1 = some b ∧ b.mut = true) → e.fits σ.bk.length = true → (seqR P F K opa.toList id n l (σ.eff o.dst e)).sat T Lf B η → wpOps P opa Q (List.range' (k + 1) l.length) (a.put o.dst v') w' := by
        intro e v' w' ρ' Z' d1 al hf h
        have hsl' : (σ.eff o.dst e).sl.length = σ.sl.length := by cases o.dst <;> simp [St.eff]
        refine ih (k + 1) l (σ.eff o.dst e) ρ' Z' _ _ hdr (by rw [hsl']; exact hd) (by simp [St.eff, foldl_len]; omega) h (eff_step hL d1 hdo al hf) fun σ'' ρ'' Z'' a'' w'' h1 h2 h3 => hQ σ'' ρ'' Z'' a'' w'' h1 h2 (ext (fun id hid => d1.old id hid) h3)
      simp only [seqR] at h
      split at h
      · exact h.elim
      · exact split h
      · rename_i hg
        rw [effK_eq] at h
        rw [List.length_cons, List.range'_succ, wpOps_cons]
        have hw := guard_ok (ρ := ρ) (Z := Z) (w := w) hL.2 hsl hg
        unfold wpOp
        rw [ho]
        simp only [hw, Bool.false_eq_true, if_false]
        exact next (Did.pure hL.1.mem.zlt (v := .tup []) ⟨[], rfl, rfl⟩) nofun rfl h
      · rename_i hg
        split at h
        · rename_i e q hev
          rw [Eff.fc_eq] at h
          split at h
          · rename_i hfit
            have h' : (∀ x ∈ q, (x.d T η).bool = true) ∧ (seqR P F K opa.toList id n l (σ.eff o.dst e)).sat T Lf B η := by
              split at h
              · rename_i he
                rw [effK_eq] at h
                exact ⟨by rw [List.isEmpty_iff.1 he]; exact nofun, h⟩
              · obtain ⟨h1, h2⟩ := h
                rw [effK_eq] at h2
                exact ⟨h1, h2⟩
            obtain ⟨hq, h2⟩ := h'
            have hop := opV_V (a := a) (η := η) (T := T) (ρ := ρ) (w := w) (Z := Z) (p := σ.fs.p) hsl (fun t v hv => hL.1.isl t v hv)
            have hsees : Sees T η ρ w Z (opV fun t => σ.sl.getD t none) σ.b a.eval σ.fs.p :=
              ⟨hL.1.mem, fun x v hv => (hop x v hv).1, fun x v hv => (hop x v hv).2, hL.1.ibk, fun _ => rfl⟩
            obtain ⟨g1, g2⟩ := evalOp_good (o := o) hsees hF hK hL.2 hev hq (fun k hk => by simp [St.fs])
            have hw := guard_ok (ρ := ρ) (Z := Z) (w := w) hL.2 hsl hg
            rw [List.length_cons, List.range'_succ, wpOps_cons]
            unfold wpOp
            rw [ho]
            simp only [hw, if_true]
            refine .inl (wp_of_does g1 ?_)
            rintro v' w' ⟨ρ', Z', d1⟩
            exact next d1 g2 hfit h2
          · exact h.elim
        · split at h
          · exact split h
          · exact h.elim
end
end
end Go.Sz
