/- The evaluator: code. -/
import Derived.Test.YtjeenfnfkndgaaaZV
namespace Go.Sz
open Go Go.RowKit
noncomputable section
section
variable {P : Program} {T : Tab} {η η' η'' : Env} {ρ ρ' ρ'' : Plc} {S : List Nat} {w0 : World} {Z0 Z Z' : Nat → Prop} {n m M d : Nat} {a : Act} {w w' : World} {F : Fs} {K : List Con} {σ σ' σ'' : St} {Lf : Ex → St → BT → Env → Prop} {B B' B'' : BT} {sym : List Nat}
theorem rounds_up {b : Code} {Q : Exit → Act → World → Prop} : ∀ {n : Nat} {a : Act} {w : World}, Code.rounds P b Q n a w → Code.rounds P b Q (n + 1) a w
  | 0, _, _, h => h.elim
  | n + 1, a, w, h => wp_mono h fun e a' w' he => by
    cases e with
    | normal => exact rounds_up he
    | _ => exact he
theorem rounds_le {b : Code} {Q : Exit → Act → World → Prop} {n m : Nat} (h : n ≤ m) {a : Act} {w : World} (hr : Code.rounds P b Q n a w) : Code.rounds P b Q m a w := by
  induction h with
  | refl => exact hr
  | step _ ih => exact rounds_up ih
/-- a loop with a measure -/
theorem wp_loop_m {b : Code} {Q : Exit → Act → World → Prop} (I : Nat → Act → World → Prop) (hr : ∀ m a w, I m a w → b.wp P (Exit.then (fun a' w' => ∃ m', m' < m ∧ I m' a' w') Q) a w) : ∀ m a w, I m a w → (Code.loop b).wp P Q a w := by
  have key : ∀ m a w, I m a w → Code.rounds P b Q (m + 1) a w := by
    intro m
    induction m using Nat.strongRecOn with
    | _ m ih =>
      intro a w h
      refine wp_mono (hr m a w h) fun e a' w' he => ?_
      cases e with
      | normal =>
        obtain ⟨m', hm, hI⟩ := he
        exact rounds_le (by omega) (ih m' hm a' w' hI)
      | _ => exact he
  exact fun m a w h => wp_loop_rounds (m + 1) (key m a w h)
theorem Ref.ext (h : Ref T M η σ σ') (hM : M ≤ σ.bk.length) (hρ : ∀ id, id < M → ρ' id = ρ id) : Ext M d B η σ ρ B η σ' ρ' := ⟨h.2.2.1 hM, hρ, h.2.1, Agree.refl _ _, h.1, fun _ _ => rfl⟩
theorem after_len {ops : List Oper} {n0 : Nat} {effs : List Eff} : n0 ≤ (after ops n0 σ effs).bk.length := by
  unfold after; simp only [List.length_map, List.length_range]; exact baseOf_ge _ _ _
theorem after_ext {ops : List Oper} {effs : List Eff} (hM : M ≤ σ.bk.length) (h : ∀ id, id < σ.bk.length → ρ' id = ρ id) : Ext M d B η σ ρ B η (after ops σ.bk.length σ effs) ρ' :=
  ⟨Nat.le_trans hM after_len, fun id hid => h id (by omega), Nat.le_refl _, Agree.refl _ _, slotsAfter_len _ _, fun _ _ => rfl⟩
theorem sub_agree {s : Sub} (hv : s.v = []) : Agree s.n η (η.sub T s) :=
  ⟨fun j hj => by simp [Env.sub, hj], by funext j; simp [Env.sub, hv, lookN]⟩
theorem Agree.le {n m : Nat} (h : Agree n η η') (hm : m ≤ n) : Agree m η η' := ⟨fun j hj => h.d j (by omega), h.v⟩
theorem code_ok (hm : P.follows .mixedOrders = true) (hF : F.ok T) (hK : ∀ c ∈ K, c.Ok P T) : ∀ n : Nat,
    (∀ (c : Code) (d : Nat) (σ : St) (ρ : Plc) (Z : Nat → Prop) (a : Act) (w : World) (η : Env) (B : BT) (Lf : Ex → St → BT → Env → Prop) (Q : Exit → Act → World → Prop), M ≤ σ.bk.length → (code P F K M sym n d c σ).sat T Lf B η → Lies T η S Z0 w0 σ ρ Z a w →
      (∀ e σ' ρ' Z' a' w' η' B', Lf e σ' B' η' → Lies T η' S Z0 w0 σ' ρ' Z' a' w' → Ext M d B η σ ρ B' η' σ' ρ' → Q e.to a' w') → c.wp P Q a w) ∧
    (∀ (b : Code) (d : Nat) (σ : St) (ρ : Plc) (Z : Nat → Prop) (a : Act) (w : World) (η : Env) (B : BT) (Lf : Ex → St → BT → Env → Prop) (Q : Exit → Act → World → Prop), M ≤ σ.bk.length → (code P F K M sym n d (.loop b) σ).sat T Lf B η → Lies T η S Z0 w0 σ ρ Z a w →
      (∀ e σ' ρ' Z' a' w' η' B', Lf e σ' B' η' → Lies T η' S Z0 w0 σ' ρ' Z' a' w' → Ext M d B η σ ρ B' η' σ' ρ' → Q e.to a' w') → Code.rounds P b Q n a w) := by
  intro n
  induction n with
  | zero => exact ⟨fun c d σ ρ Z a w η B Lf Q _ h => by simp [code, Tree.sat] at h, fun b d σ ρ Z a w η B Lf Q _ h => by simp [code, Tree.sat] at h⟩
  | succ n ih =>
    obtain ⟨ihA, ihB⟩ := ih
    have B' : ∀ (b : Code) (d : Nat) (σ : St) (ρ : Plc) (Z : Nat → Prop) (a : Act) (w : World) (η : Env) (B : BT) (Lf : Ex → St → BT → Env → Prop) (Q : Exit → Act → World → Prop), M ≤ σ.bk.length → (code P F K M sym (n + 1) d (.loop b) σ).sat T Lf B η → Lies T η S Z0 w0 σ ρ Z a w →
        (∀ e σ' ρ' Z' a' w' η' B', Lf e σ' B' η' → Lies T η' S Z0 w0 σ' ρ' Z' a' w' → Ext M d B η σ ρ B' η' σ' ρ' → Q e.to a' w') → Code.rounds P b Q (n + 1) a w := by
      intro b d σ ρ Z a w η B Lf Q hM h hl hk
      simp only [code] at h
      refine ihA b d σ ρ Z a w η B _ _ hM (bind_ok h) hl fun e σ' ρ' Z' a' w' η' B' h1 h2 h3 => ?_
      cases e with
      | normal =>
        simp only [Then, if_true] at h1
        obtain ⟨σ'', hr, h1⟩ := h1
        obtain ⟨ρ'', h4, h5⟩ := hr.2.2.2 _ _ _ _ _ _ _ h2
        have h6 := h3.trans (hr.ext h3.le h5)
        exact ihB b d σ'' ρ'' Z' a' w' η' B' Lf Q h6.le h1 h4 fun e s3 ρ3 Z3 a3 w3 η3 B3 g1 g2 g3 => hk e s3 ρ3 Z3 a3 w3 η3 B3 g1 g2 (h6.trans g3)
      | exit id => exact hk (.exit id) σ' ρ' Z' a' w' η' B' (by simpa [Then] using h1) h2 h3
      | ret => exact hk .ret σ' ρ' Z' a' w' η' B' (by simpa [Then] using h1) h2 h3
    refine ⟨?_, B'⟩
    intro c d σ ρ Z a w η B Lf Q hM h hl hk
    cases c with
    | skip => exact wp_skip (hk .normal σ ρ Z a w η B (by simpa only [code, Tree.sat] using h) hl (Ext.refl hM))
    | region id ops draw =>
      cases draw with
      | false =>
        simp only [code] at h
        split at h
        · rename_i hd
          have hd' : ∀ o ∈ ops.toList, ∀ t, o.dst = some t → t < σ.sl.length := fun o ho t ht => by
            have := List.all_eq_true.1 hd o ho
            rw [ht] at this
            simpa using this
          refine wp_region ?_
          have := seqR_ok (opa := ops) (id := id) (Q := Q) (M := M) (d := d) hF hK 1000 0 ops.toList σ ρ Z a w rfl hd' hM h hl fun σ' ρ' Z' a' w' h1 h2 h3 => hk .normal σ' ρ' Z' a' w' η B h1 h2 h3
          rw [List.range_eq_range']
          simpa using this
        · exact h.elim
      | true =>
        simp only [code] at h
        split at h
        · rename_i effs need hreg
          split at h
          · rename_i he
            have hneed : ∀ x ∈ need, (x.d T η).bool = true := by rw [List.isEmpty_iff.1 he]; exact nofun
            exact region_ok hreg hm hF hK hneed hl rfl fun ρ' Z' a' w' h1 h2 => hk .normal _ ρ' Z' a' w' η B h h2 (after_ext hM h1)
          · exact region_ok hreg hm hF hK h.1 hl rfl fun ρ' Z' a' w' h1 h2 => hk .normal _ ρ' Z' a' w' η B h.2 h2 (after_ext hM h1)
        · rename_i c _
          cases hc : (c.d T η).bool with
          | true => exact ihA _ d (σ.assume _ true) ρ Z a w η B Lf Q hM (h.1 hc) (hl.assume hc) fun e σ' ρ' Z' a' w' η' B' h1 h2 h3 => hk e σ' ρ' Z' a' w' η' B' h1 h2 ⟨h3.le, h3.at_, h3.nv, h3.ag, h3.sl, h3.bt⟩
          | false => exact ihA _ d (σ.assume _ false) ρ Z a w η B Lf Q hM (h.2 hc) (hl.assume hc) fun e σ' ρ' Z' a' w' η' B' h1 h2 h3 => hk e σ' ρ' Z' a' w' η' B' h1 h2 ⟨h3.le, h3.at_, h3.nv, h3.ag, h3.sl, h3.bt⟩
        · exact h.elim
    | seq x y =>
      simp only [code] at h
      refine wp_seq (ihA x d σ ρ Z a w η B _ _ hM (bind_ok h) hl fun e σ' ρ' Z' a' w' η' B' h1 h2 h3 => ?_)
      cases e with
      | normal =>
        simp only [Then, if_true] at h1
        obtain ⟨σ'', hr, h1⟩ := h1
        obtain ⟨ρ'', h4, h5⟩ := hr.2.2.2 _ _ _ _ _ _ _ h2
        have h6 := h3.trans (hr.ext h3.le h5)
        exact ihA y d σ'' ρ'' Z' a' w' η' B' Lf Q h6.le h1 h4 fun e s3 ρ3 Z3 a3 w3 η3 B3 g1 g2 g3 => hk e s3 ρ3 Z3 a3 w3 η3 B3 g1 g2 (h6.trans g3)
      | exit id => exact hk (.exit id) σ' ρ' Z' a' w' η' B' (by simpa [Then] using h1) h2 h3
      | ret => exact hk .ret σ' ρ' Z' a' w' η' B' (by simpa [Then] using h1) h2 h3
    | cond c t e =>
      simp only [code] at h
      split at h
      · rename_i x hx
        have hv : a.eval c = .bool (x.d T η).bool := by
          have hop := opV_V (a := a) (T := T) (η := η) (ρ := ρ) (w := w) (Z := Z) (p := σ.fs.p) (sl := fun t => σ.sl.getD t none) (fun t v hv => hl.1.sl t v hv) (fun t v hv => hl.1.isl t v hv)
          unfold one? at hx
          split at hx
          · rename_i c' hc'
            simp at hx; subst hx
            exact (hop _ _ hc').1
          · cases hx
        split at h
        · rename_i hd
          exact wp_cond_true (by rw [hv, dec_ok hl.2 hd]) (ihA t d σ ρ Z a w η B Lf Q hM h hl hk)
        · rename_i hd
          exact wp_cond_false (by rw [hv, dec_ok hl.2 hd]) (ihA e d σ ρ Z a w η B Lf Q hM h hl hk)
        · cases hc : (x.d T η).bool with
          | true => exact wp_cond_true (by rw [hv, hc]) (ihA t d (σ.assume _ true) ρ Z a w η B Lf Q hM (h.1 hc) (hl.assume hc) fun e σ' ρ' Z' a' w' η' B' h1 h2 h3 => hk e σ' ρ' Z' a' w' η' B' h1 h2 ⟨h3.le, h3.at_, h3.nv, h3.ag, h3.sl, h3.bt⟩)
          | false => exact wp_cond_false (by rw [hv, hc]) (ihA e d (σ.assume _ false) ρ Z a w η B Lf Q hM (h.2 hc) (hl.assume hc) fun e σ' ρ' Z' a' w' η' B' h1 h2 h3 => hk e σ' ρ' Z' a' w' η' B' h1 h2 ⟨h3.le, h3.at_, h3.nv, h3.ag, h3.sl, h3.bt⟩)
      · exact h.elim
    | block id b =>
      simp only [code] at h
      have plain : ((code P F K M sym n d b σ).graft fun e σ' => .leaf (if e = .exit id then .normal else e) σ').sat T Lf B η → (Code.block id b).wp P Q a w := by
        intro h
        refine wp_block (ihA b d σ ρ Z a w η B _ _ hM (graft_ok h) hl fun e σ' ρ' Z' a' w' η' B' h1 h2 h3 => ?_)
        simp only [Tree.sat] at h1
        cases e with
        | normal => exact hk .normal σ' ρ' Z' a' w' η' B' (by simpa using h1) h2 h3
        | exit id' =>
          by_cases hid : id' = id
          · subst hid
            simp only [Exit.inBlock, Ex.to, if_true]
            exact hk .normal σ' ρ' Z' a' w' η' B' (by simpa using h1) h2 h3
          · simp only [Exit.inBlock, Ex.to, if_neg hid]
            exact hk (.exit id') σ' ρ' Z' a' w' η' B' (by simpa [hid] using h1) h2 h3
        | ret => exact hk .ret σ' ρ' Z' a' w' η' B' (by simpa using h1) h2 h3
      split at h
      · rename_i c
        split at h
        · rw [natK_eq, St.fc_eq, findHeadK_eq, St.fc_eq] at h
          have hn0 : σ.nv ≤ max σ.nv 1 := Nat.le_max_left _ _
          have hpc : ∀ {η' : Env}, Agree (max σ.nv 1) η η' → PC.ok T η' (σ.pc.filter fun q => q.1.low (max σ.nv 1)) := fun ha q hq => by
            rw [List.mem_filter] at hq
            rw [low_d ha hq.2]
            exact hl.2 q hq.1
          generalize max σ.nv 1 = n0 at h hn0 hpc
          generalize hhd : ({ findHead M n0 (fun τ => code P F K M sym n (d + 1) c τ) 6 { σ with nv := n0 } with pc := σ.pc.filter fun q => q.1.low n0 } : St) = hd at h
          have hpcd : hd.pc = σ.pc.filter fun q => q.1.low n0 := by rw [← hhd]
          split at h
          · rename_i s hs
            split at h
            · rename_i hb
              have hb : n0 ≤ hd.nv := by rw [← hhd]; simpa only [← hhd] using hb
              obtain ⟨J, μ, hJ, hround⟩ := h
              have en : ∀ {η1 : Env} {σ1 : St} {s1 : Sub} {ρ1 : Plc} {Z1 : Nat → Prop} {a1 : Act} {w1 : World}, enter F M n0 hd σ1 = some s1 → Lies T η1 S Z0 w0 σ1 ρ1 Z1 a1 w1 → Agree n0 η η1 →
                  Agree n0 η (η1.sub T s1) ∧ M ≤ hd.bk.length ∧ hd.sl.length = σ1.sl.length ∧ ∃ ρ' Z', Lies T (η1.sub T s1) S Z0 w0 hd ρ' Z' a1 w1 ∧ ∀ id, id < M → ρ' id = ρ1 id := by
                intro η1 σ1 s1 ρ1 Z1 a1 w1 h1 h2 h3
                have pre : s1.v = [] ∧ s1.n = n0 := by
                  unfold enter at h1
                  dsimp only at h1
                  split at h1
                  · split at h1
                    · rename_i hc
                      simp at h1; subst h1
                      exact ⟨rfl, hc.1⟩
                    · cases h1
                  · cases h1
                have ag : Agree n0 η (η1.sub T s1) := h3.trans (by have := sub_agree (T := T) (η := η1) pre.1; rw [pre.2] at this; exact this) (Nat.le_refl _)
                obtain ⟨-, -, -, g3, -, g5, g6⟩ := enter_ok hF h1 h2 (by rw [hpcd]; exact hpc ag)
                exact ⟨ag, g3, g5, g6⟩
              obtain ⟨e1, e2, e3, ρ0, Z0', e4, e5⟩ := en hs hl (Agree.refl _ _)
              refine wp_block (wp_loop_m (fun m a w => ∃ η' ρ' Z', Agree n0 η η' ∧ J η' ∧ μ η' = m ∧ Lies T η' S Z0 w0 hd ρ' Z' a w ∧ ∀ id, id < M → ρ' id = ρ id) ?_ (μ (η.sub T s)) a w ⟨η.sub T s, ρ0, Z0', e1, hJ, rfl, e4, e5⟩)
              rintro m a1 w1 ⟨η1, ρ1, Z1, ag1, hJ1, rfl, hl1, hρ1⟩
              refine ihA c (d + 1) hd ρ1 Z1 a1 w1 η1 _ _ _ e2 (graft_ok (hround η1 ag1 hJ1)) hl1 fun e σ' ρ' Z' a' w' η' B' h1 h2 h3 => ?_
              have ag2 : Agree n0 η η' := ag1.trans (h3.ag.le hb) (Nat.le_refl _)
              have ext : Ext M d B η σ ρ B' η' σ' ρ' := ⟨h3.le, fun id hid => (h3.at_ id hid).trans (hρ1 id hid), Nat.le_trans hn0 (Nat.le_trans hb h3.nv), ag2.le hn0, h3.sl.trans e3, fun k hk' => by
                rw [h3.bt k (by omega)]; simp [upd, Nat.ne_of_lt hk']⟩
              cases e with
              | normal =>
                simp only at h1
                split at h1
                · rename_i s' hs'
                  have hB : B' d = upd B d (fun η'' s' => J (η''.sub T s') ∧ μ (η''.sub T s') < μ η1) d := h3.bt d (by omega)
                  simp only [Tree.sat, hB, upd, if_true] at h1
                  obtain ⟨k1, -, -, ρ2, Z2, k2, k3⟩ := en hs' h2 ag2
                  exact ⟨μ (η'.sub T s'), h1.2, η'.sub T s', ρ2, Z2, k1, h1.1, rfl, k2, fun id hid => (k3 id hid).trans ((h3.at_ id hid).trans (hρ1 id hid))⟩
                · exact h1.elim
              | exit id' =>
                simp only [Tree.sat] at h1
                by_cases hid : id' = id
                · subst hid
                  simp only [if_true] at h1
                  simp only [Exit.then, Exit.inBlock, Ex.to, if_true]
                  exact hk .normal σ' ρ' Z' a' w' η' B' h1 h2 ext
                · rw [if_neg hid] at h1
                  simp only [Exit.then, Exit.inBlock, Ex.to, if_neg hid]
                  exact hk (.exit id') σ' ρ' Z' a' w' η' B' h1 h2 ext
              | ret =>
                simp only [Tree.sat] at h1
                exact hk .ret σ' ρ' Z' a' w' η' B' h1 h2 ext
            · exact h.elim
          · exact h.elim
        · exact plain h
      · exact plain h
    | loop b => exact wp_loop_rounds (n + 1) (B' b d σ ρ Z a w η B Lf Q hM h hl hk)
    | exit id => exact wp_exit (hk (.exit id) σ ρ Z a w η B (by simpa only [code, Tree.sat] using h) hl (Ext.refl hM))
    | ret => exact wp_ret (hk .ret σ ρ Z a w η B (by simpa only [code, Tree.sat] using h) hl (Ext.refl hM))
    | _ => simp [code, Tree.sat] at h
end
end
end Go.Sz
