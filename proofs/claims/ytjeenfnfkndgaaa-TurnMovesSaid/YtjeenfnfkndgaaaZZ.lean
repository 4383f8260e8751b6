/- The evaluator: contracts of functions. -/
import Derived.Test.YtjeenfnfkndgaaaZY
namespace Go.Sz
open Go Go.RowKit
noncomputable section
theorem All2.len {α β : Type} {R : α → β → Prop} : ∀ {l : List α} {m : List β}, All2 R l m → l.length = m.length
  | _, _, .nil => rfl
  | _, _, .cons _ h => by simp [All2.len h]
theorem All2.get {α β : Type} {R : α → β → Prop} : ∀ {l : List α} {m : List β}, All2 R l m → ∀ {i : Nat} {x : α}, l[i]? = some x → ∃ y, m[i]? = some y ∧ R x y
  | _, _, .nil, i, x, h => by simp at h
  | _, _, .cons h1 h2, 0, x, h => by simp at h; subst h; exact ⟨_, rfl, h1⟩
  | _, _, .cons h1 h2, i + 1, x, h => by simpa using All2.get h2 (i := i) (by simpa using h)
section
variable {P : Program} {T : Tab} {η η' : Env} {ρ ρ' : Plc} {S : List Nat} {w0 : World} {Z0 Z Z' : Nat → Prop} {n m M d h : Nat} {a : Act} {w w' : World} {F : Fs} {K : List Con} {σ : St}
theorem start_ok {c : Con} {fn : Func} {nb : Nat} {vs : List Value} (hfit : c.fit = true) (hn : c.pat.length ≤ fn.ntmps) (hmem : Mem T η ρ w Z (fun i => c.hp[i]?)) (hargs : All2 (fun (x : SV) (v : Value) => x.V T η ρ w Z v) c.pat vs) :
    Lies T η (handed c.hp.length ρ) Z w (start nb fn c.pat c.hp) ρ Z { tmps := vs.toArray ++ Array.replicate (fn.ntmps - vs.toArray.size) undef, defers := [] } w := by
  unfold Con.fit at hfit
  simp only [Bool.and_eq_true, List.all_eq_true] at hfit
  obtain ⟨⟨⟨⟨⟨f1, f2⟩, -⟩, -⟩, -⟩, -⟩ := hfit
  have hlen := hargs.len
  have hbk : (start nb fn c.pat c.hp).b = fun i => c.hp[i]? := by
    funext i
    show (c.hp.map some).getD i none = _
    rw [List.getD_eq_getElem?_getD, List.getElem?_map]
    cases c.hp[i]? <;> rfl
  have hp : ∀ id, (start nb fn c.pat c.hp).fs.p id = decide (id < c.hp.length) := fun id => by simp [St.fs, start]
  have hsl : ∀ t v, (start nb fn c.pat c.hp).sl.getD t none = some v → (c.pat[t]? = some v) ∨ (c.pat.length ≤ t ∧ t < fn.ntmps ∧ v = .tup []) := fun t v hv => by
    have hv := getD_some hv
    simp only [start] at hv
    rw [List.getElem?_append] at hv
    split at hv
    · rw [List.getElem?_map] at hv
      left
      cases hc : c.pat[t]? with
      | none => rw [hc] at hv; cases hv
      | some x => rw [hc] at hv; simpa using hv
    · rename_i hge
      simp only [List.length_map, Nat.not_lt] at hge
      rw [List.length_map, List.getElem?_replicate] at hv
      split at hv
      · rename_i hlt
        simp only [Option.some.injEq] at hv
        exact .inr ⟨hge, by omega, hv.symm⟩
      · cases hv
  refine ⟨⟨?_, rfl, fun t v hv => ?_, ?_, Keep.refl _ _, fun id b hb hm g hg => ?_, fun g hg => hg, fun g hg => .inl hg, fun t v hv => ?_, fun id b hb => ?_⟩, nofun⟩
  · simp [start]; omega
  · rcases hsl t v hv with h1 | ⟨h1, h2, rfl⟩
    · obtain ⟨u, h3, h4⟩ := hargs.get h1
      have : (vs.toArray ++ Array.replicate (fn.ntmps - vs.toArray.size) undef).getD t undef = u := by
        have := (List.getElem?_eq_some_iff.1 h3).1
        rw [Array.getD_eq_getD_getElem?, Array.getElem?_append_left (by simpa using this)]
        simp [h3]
      show SV.V T η ρ w Z v _
      simp only
      rw [this]; exact h4
    · have : (vs.toArray ++ Array.replicate (fn.ntmps - vs.toArray.size) undef).getD t undef = undef := by
        rw [Array.getD_eq_getD_getElem?, Array.getElem?_append_right (by simp; omega)]
        rw [Array.getElem?_replicate]
        split <;> rfl
      show SV.V T η ρ w Z _ _
      simp only
      rw [this]; exact ⟨[], rfl, rfl⟩
  · show Mem T η ρ w Z (start nb fn c.pat c.hp).b
    rw [hbk]; exact hmem
  · have hb : (start nb fn c.pat c.hp).b id = some b := hb
    rw [hbk] at hb
    exact .inr (mem_handed.2 ⟨id, (List.getElem?_eq_some_iff.1 hb).1, hg⟩)
  · have he : (start nb fn c.pat c.hp).fs.p = fun id => decide (id < c.hp.length) := funext hp
    rw [he]
    rcases hsl t v hv with h1 | ⟨-, -, rfl⟩
    · exact f1 v (List.mem_of_getElem? h1)
    · rfl
  · have he : (start nb fn c.pat c.hp).fs.p = fun id => decide (id < c.hp.length) := funext hp
    rw [he]
    have hb : (start nb fn c.pat c.hp).b id = some b := hb
    rw [hbk] at hb
    exact ⟨(f2 b (List.mem_of_getElem? hb)).1, by simpa using (List.getElem?_eq_some_iff.1 hb).1⟩
/-- A CONTRACT -/
theorem con_of {c : Con} {nb fuel : Nat} {sym : List Nat} (hm : P.follows .mixedOrders = true) (hF : F.ok T) (hK : ∀ c ∈ K, c.Ok P T) (hfit : c.fit = true) (hlow : c.low nb = true)
    (h : ∀ η, (∀ x ∈ c.need, (x.d T η).bool = true) → (fnTree P F K c.hp.length sym fuel c nb).sat T (fun _ _ _ _ => False) (fun _ _ _ => False) η) : c.Ok P T := by
  intro η ρ w Z vs hmem hargs hneed
  have h := h η hneed
  unfold fnTree at h
  split at h
  · rename_i fn hf
    have h := graft_ok h
    unfold fnCode at h
    rw [hf] at h
    simp only at h
    split at h
    · rename_i body hbody
      split at h
      · rename_i hc
        refine calls_of_wp hf hbody ?_
        have hpl : c.post.length = c.hp.length := by
          unfold Con.fit at hfit
          simp only [Bool.and_eq_true, decide_eq_true_eq] at hfit
          exact hfit.1.2
        refine (code_ok (M := c.hp.length) hm hF hK fuel).1 body 0 _ ρ Z _ w η _ _ _ (by simp [start]) h (start_ok hfit hc.1 hmem hargs) fun e σ' ρ' Z' a' w' η' B' h1 h2 h3 => ?_
        obtain ⟨he, u, r, hu, hd⟩ := finish_ok hpl hlow h3.ag h1 h2 h3.at_
        have key : ∃ v, (results fn a'.tmps).run P w' = .ok v w' ∧ ∃ v' ρ' Z', Ending.returned v = .returned v' ∧ Did T η ρ w Z c.eff c.hp.length v' w' ρ' Z' := ⟨u, hu, u, r, Z', rfl, hd⟩
        rcases he with rfl | rfl
        · exact ⟨h2.1.nod, key⟩
        · exact ⟨h2.1.nod, key⟩
      · exact h.elim
    · exact h.elim
  · exact h.elim
/-- a tree that needs no proof -/
theorem auto_ok {ns : List X} (hF : F.ok T) (hns : ∀ x ∈ ns, (x.d T η).bool = true) {Lf : Ex → St → BT → Env → Prop} {B : BT} : ∀ {t : Tree} {pc : PC}, t.auto F ns pc = true → pc.ok T η → t.sat T Lf B η := by
  have app : ∀ {pc pc' : PC}, pc'.ok T η → pc.ok T η → PC.ok T η (pc' ++ pc) := fun h1 h2 q hq => (List.mem_append.1 hq).elim (h1 q) (h2 q)
  intro t
  induction t with
  | br c t e iht ihe =>
    intro pc h hpc
    simp only [Tree.auto, Bool.and_eq_true] at h
    exact ⟨fun hc => iht h.1 (app (facts_ok hc) hpc), fun hc => ihe h.2 (app (facts_ok hc) hpc)⟩
  | need l t ih =>
    intro pc h hpc
    simp only [Tree.auto, Bool.and_eq_true, List.all_eq_true, Bool.or_eq_true, decide_eq_true_eq, List.contains_iff_mem, List.any_eq_true] at h
    refine ⟨fun x hx => ?_, ih h.2 hpc⟩
    rcases h.1 x hx with (h1 | h1) | ⟨y, hy, h1 | h1⟩
    · exact dec_ok hpc h1
    · exact hns x h1
    · rw [← h1, boolUnder_d hF hpc]; exact hns y hy
    · rw [← boolUnder_d hF hpc, ← h1, boolUnder_d hF hpc]; exact hns y hy
  | join t c m iht ihm =>
    intro pc h hpc
    simp only [Tree.auto, Bool.and_eq_true] at h
    exact ⟨iht h.1 hpc, fun hc => ihm h.2 (app (facts_ok hc) hpc)⟩
  | met => intro pc _ _; trivial
  | fin q =>
    intro pc h hpc p hp
    simp only [Tree.auto, List.all_eq_true] at h
    have h := h p hp
    split at h
    · rename_i h1
      simp only [Bool.or_eq_true, decide_eq_true_eq] at h
      have key : (p.2.1.d T η).bool = (p.2.2.d T η).bool := by
        rcases h with h | h
        · rw [h]
        · rw [← boolUnder_d hF hpc, h, boolUnder_d hF hpc]
      unfold finOk
      rw [h1]
      exact key
    · simp only [decide_eq_true_eq] at h
      have : p.2.1.d T η = p.2.2.d T η := by rw [← under_d hF hpc, h, under_d hF hpc]
      unfold finOk
      split <;> simp [this]
  | _ => intro pc h; simp [Tree.auto] at h
/-- A CONTRACT WITHOUT A PROOF -/
theorem con_auto {c : Con} {nb fuel : Nat} {sym : List Nat} (hm : P.follows .mixedOrders = true) (hF : F.ok T) (hK : ∀ c ∈ K, c.Ok P T) (h : (c.fit && c.low nb && (fnTree P F K c.hp.length sym fuel c nb).auto F c.need []) = true) : c.Ok P T := by
  simp only [Bool.and_eq_true] at h
  exact con_of hm hF hK h.1.1 h.1.2 fun η hn => auto_ok hF hn h.2 nofun
/-- a contract by a tree that is written out -/
theorem con_tree {c : Con} {nb fuel : Nat} {sym : List Nat} (t : Tree) (hm : P.follows .mixedOrders = true) (hF : F.ok T) (hK : ∀ c ∈ K, c.Ok P T) (hc : (c.fit && c.low nb) = true) (ht : fnTree P F K c.hp.length sym fuel c nb = t)
    (h : ∀ η, (∀ x ∈ c.need, (x.d T η).bool = true) → t.sat T (fun _ _ _ _ => False) (fun _ _ _ => False) η) : c.Ok P T := by
  simp only [Bool.and_eq_true] at hc
  exact con_of hm hF hK hc.1 hc.2 (fun η hn => ht ▸ h η hn)
theorem conNil : ∀ c ∈ ([] : List Con), c.Ok P T := nofun
theorem conCons {c : Con} {l : List Con} (h : c.Ok P T) (hl : ∀ c ∈ l, c.Ok P T) : ∀ d ∈ c :: l, d.Ok P T := fun d hd => by
  rcases List.mem_cons.1 hd with rfl | hd
  · exact h
  · exact hl d hd
end
end
end Go.Sz
